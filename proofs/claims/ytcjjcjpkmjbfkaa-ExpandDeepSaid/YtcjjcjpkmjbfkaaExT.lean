/-
  Layer 12: rows of composites, each with the next one as its only part.
-/
import Derived.Test.YtcjjcjpkmjbfkaaExQ
namespace Go.Proofs.Ytcjjcjpkmjbfkaa
open Go.RowKit Go.ChangeShapes Go.WideShapes Go.Deep
set_option linter.unusedVariables false
set_option linter.unusedSimpArgs false

def pP12 (g : Nat) : Pt8 := ⟨(g : Int), 0, 0, 16384, 0, 0, 16384⟩
/-- A composite of one part. -/
def dB12 (g : Nat) : List Int := [255, 255, 0, 0, 0, 0, 0, 0, 0, 0, 0, 2, 0, (g : Int), 0, 0]
theorem dw12 : ∀ g : Fin 41, wrE8 [pP12 g] [] [0, 0, 0, 0] = 0 ∧ wrA8 [pP12 g] [] [0, 0, 0, 0] = dB12 g := by decide +kernel
theorem dr12 : ∀ g : Fin 41, (rdAns8 (fnL (dB12 g)) 16).e = 0 ∧ (rdAns8 (fnL (dB12 g)) 16).L = [pP12 g] := by decide +kernel
theorem dB12_len (g : Nat) : (dB12 g).length = 16 := rfl
theorem dB12_bytes {g : Nat} (hg : g ≤ 40) : Bytes (dB12 g) := fun v hv => by
  unfold dB12 at hv
  simp only [List.mem_cons, List.not_mem_nil, or_false] at hv
  omega
theorem body12_d (step : Int → Nat → St12) {g : Nat} (hg : g ≤ 40) (v : Nat) : body12 step (dB12 g) v = parts12 step [pP12 g] [] v := by
  obtain ⟨h1, h2⟩ := dr12 ⟨g, by omega⟩
  simp only at h1 h2
  unfold body12
  rw [dB12_len, if_neg (by omega), if_pos (by show (128 : Int) ≤ 255; omega), if_neg (by rw [h1]; simp), h2]
/-- One visit of such: its part's. -/
theorem vis12_d {G : List (List Int)} {f : Nat} {i g v : Nat} (hi : i < G.length) (hv : v + 1 ≤ 4096) (hg : g ≤ 40) (hG : G.getD i [] = dB12 g) :
    ((vis12 G f (g : Int) (v + 1)).e = 0 → (vis12 G f (g : Int) (v + 1)).LL = [] → vis12 G (f + 1) (i : Int) v = ⟨[], (vis12 G f (g : Int) (v + 1)).v, 0⟩) ∧ ((vis12 G f (g : Int) (v + 1)).e ≠ 0 → (vis12 G (f + 1) (i : Int) v).e = (vis12 G f (g : Int) (v + 1)).e) := by
  have e1 : vis12 G (f + 1) (i : Int) v = fin12 (parts12 (vis12 G f) [pP12 g] [] (v + 1)) := by
    rw [vis12, if_neg (by omega), if_neg (by omega), Int.toNat_natCast, hG, body12_d _ hg]
  rw [e1]
  have e2 : (pP12 g).g = (g : Int) := rfl
  refine ⟨fun h0 hL => ?_, fun h0 => ?_⟩
  · rw [parts_good (by rw [e2]; exact h0) (by rw [e2, hL]; rfl), e2, hL]
    rfl
  · rw [parts_err (by rw [e2]; exact h0), e2]
    unfold fin12
    rw [if_pos h0]
def rowL (S : Nat) : List (List Int) := (List.range S).map (fun k => dB12 (k + 1)) ++ [[]]
def rndL (S n : Nat) : List (List Int) := (List.range n).map (fun k => dB12 ((k + 1) % S))
theorem row12 {S : Nat} (hS : S ≤ 40) : ∀ (d f v : Nat), d ≤ S → v + f ≤ 4000 → (d < f → vis12 (rowL S) f ((S - d : Nat) : Int) v = ⟨[], v + d + 1, 0⟩) ∧ (f ≤ d → (vis12 (rowL S) f ((S - d : Nat) : Int) v).e = 10) := by
  intro d
  have hlen : (rowL S).length = S + 1 := by unfold rowL; simp
  induction d with
  | zero =>
    intro f v hd hv
    refine ⟨fun hf => ?_, fun hf => ?_⟩
    · obtain ⟨f', rfl⟩ : ∃ f', f = f' + 1 := ⟨f - 1, by omega⟩
      have hG : (rowL S).getD S [] = [] := by unfold rowL; simp [List.getD_eq_getElem?_getD]
      rw [vis12, if_neg (by omega), if_neg (by omega), Nat.sub_zero, Int.toNat_natCast, hG]
      rfl
    · obtain rfl : f = 0 := by omega
      rfl
  | succ d ih =>
    intro f v hd hv
    rcases f with _ | f
    · exact ⟨fun h => absurd h (by omega), fun _ => rfl⟩
    · have hG : (rowL S).getD (S - (d + 1)) [] = dB12 (S - d) := by
        unfold rowL
        rw [List.getD_eq_getElem?_getD, List.getElem?_append_left (by simp; omega), List.getElem?_map, List.getElem?_range (by omega)]
        simp only [Option.map_some, Option.getD_some]
        congr 1; omega
      obtain ⟨h1, h2⟩ := vis12_d (G := rowL S) (f := f) (i := S - (d + 1)) (g := S - d) (v := v) (by omega) (by omega) (by omega) hG
      obtain ⟨i1, i2⟩ := ih f (v + 1) (by omega) (by omega)
      refine ⟨fun hf => ?_, fun hf => ?_⟩
      · have h3 := i1 (by omega)
        rw [h1 (by rw [h3]) (by rw [h3]), h3]
        show (⟨[], v + 1 + d + 1, 0⟩ : St12) = ⟨[], v + (d + 1) + 1, 0⟩
        rw [show v + 1 + d + 1 = v + (d + 1) + 1 by omega]
      · have h3 := i2 (by omega)
        rw [h2 (by rw [h3]; omega), h3]
theorem rnd12 {S : Nat} (h0 : 0 < S) (hS : S ≤ 40) : ∀ (f i v : Nat), i < S → v + f ≤ 4000 → (vis12 (rndL S S) f (i : Int) v).e = 10 := by
  intro f
  have hlen : (rndL S S).length = S := by unfold rndL; simp
  induction f with
  | zero => intro i v _ _; rfl
  | succ f ih =>
    intro i v hi hv
    have hm := Nat.mod_lt (i + 1) h0
    have hG : (rndL S S).getD i [] = dB12 ((i + 1) % S) := by
      unfold rndL
      rw [List.getD_eq_getElem?_getD, List.getElem?_map, List.getElem?_range hi]
      rfl
    obtain ⟨_, h2⟩ := vis12_d (G := rndL S S) (f := f) (i := i) (g := (i + 1) % S) (v := v) (by omega) (by omega) (by omega) hG
    have h3 := ih ((i + 1) % S) (v + 1) hm (by omega)
    rw [h2 (by rw [h3]; omega), h3]
theorem rowL_in {S : Nat} (hS : S ≤ 40) : ∀ b, b ∈ rowL S → Bytes b ∧ b.length ≤ 16 := fun b hb => by
  unfold rowL at hb
  rcases List.mem_append.1 hb with h | h
  · obtain ⟨k, hk, rfl⟩ := List.mem_map.1 h
    rw [List.mem_range] at hk
    exact ⟨dB12_bytes (by omega), by rw [dB12_len]; omega⟩
  · rw [List.mem_singleton] at h
    subst h
    exact ⟨fun v hv => (by cases hv), by simp⟩
theorem rndL_in {S : Nat} (h0 : 0 < S) (hS : S ≤ 40) : ∀ b, b ∈ rndL S S → Bytes b ∧ b.length ≤ 16 := fun b hb => by
  unfold rndL at hb
  obtain ⟨k, hk, rfl⟩ := List.mem_map.1 hb
  have hm := Nat.mod_lt (k + 1) h0
  exact ⟨dB12_bytes (by omega), by rw [dB12_len]; omega⟩
/-- The row: how it ends. -/
theorem row12_0 {S : Nat} (h0 : 0 < S) (hS : S ≤ 40) : (S ≤ 16 → vis12 (rowL S) 17 0 0 = ⟨[], S + 1, 0⟩) ∧ (16 < S → (vis12 (rowL S) 17 0 0).e = 10) := by
  obtain ⟨h1, h2⟩ := row12 hS S 17 0 (Nat.le_refl _) (by omega)
  rw [Nat.sub_self] at h1 h2
  refine ⟨fun h => ?_, fun h => h2 (by omega)⟩
  have h3 := h1 (by omega)
  rw [Nat.zero_add] at h3
  exact h3
end Go.Proofs.Ytcjjcjpkmjbfkaa
