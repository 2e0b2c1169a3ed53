/-
  Layer 2: 'Cut', 'Lay', walked, program and reference.
-/
import Derived.Test.YtaojdflnfdabhaaBeB
import Derived.Test.YtaojdflnfdabhaaKit3
namespace Go.Proofs.Ytaojdflnfdabhaa
open Go.RowKit
set_option linter.unusedVariables false

/-- A slice that is new since B, to be written: its n elements read as V. -/
def Nw (w : World) (B : Nat) (A : Option Addr) (n : Nat) (V : Nat → Value) : Prop := 0 < n → ∃ g, A = some ⟨g, 0, none⟩ ∧ B ≤ g ∧ Row w g n V
section
variable {w w' : World} {B n : Nat} {A : Option Addr} {V U : Nat → Value}
theorem Nw.zero : Nw w B A 0 V := fun h => absurd h (by omega)
theorem Nw.rd (h : Nw w B A n V) : Rd w w.heap.size A n V := fun hn => by
  obtain ⟨g, rfl, hb, hr⟩ := h hn
  exact Rd.of_row hr hn
theorem Nw.since (h : Nw w B A n V) (k : Since w w') : Nw w' B A n V := fun hn => by
  obtain ⟨g, rfl, hb, hr⟩ := h hn
  exact ⟨g, rfl, hb, hr.since k⟩
theorem Nw.congr (h : Nw w B A n V) (e : ∀ j, j < n → V j = U j) : Nw w B A n U := fun hn => by
  obtain ⟨g, rfl, hb, hr⟩ := h hn
  exact ⟨g, rfl, hb, hr.congr e⟩
end
theorem Try.size_u8' : (Try.prog.info? 5).map (·.size) = some 1 := by kernel_rfl
theorem Own.cap {w : World} {B g cap n : Nat} {f : Nat → Int} (h : Own w B g cap n f) : n ≤ cap := by
  rcases h.2 with ⟨e1, _⟩ | ⟨_, _, _, e1, _, _, hnc, _⟩
  · cases e1
  · injection e1 with _ _ e3; omega
def cutE (n : Nat) (i k : Int) : Int := if 0 ≤ k ∧ Fits n i k then 0 else 3
def cutN (n : Nat) (i k : Int) : Nat := if 0 ≤ k ∧ Fits n i k then k.toNat else 0
theorem cut_no {n : Nat} {i k : Int} (h : ¬ (0 ≤ k ∧ Fits n i k)) : cutE n i k = 3 ∧ cutN n i k = 0 := by simp [cutE, cutN, h]
theorem cut_yes {n : Nat} {i k : Int} (h : 0 ≤ k ∧ Fits n i k) : cutE n i k = 0 ∧ cutN n i k = k.toNat := by simp [cutE, cutN, h]
/-- What a cut leaves. -/
def CutPost (f : Nat → Int) (n : Nat) (i k : Int) (w : World) (e : Ending) (w' : World) : Prop := ∃ A' m cap, e = .returned (.tuple #[.slice A' m cap, .int .i64 (cutE n i k)]) ∧ m = cutN n i k ∧ m ≤ cap ∧ Nw w' w.heap.size A' m (U8 (fun j => f (i.toNat + j))) ∧ Since w w'

set_option maxHeartbeats 4000000 in
theorem be_cut (A : Option Addr) (n c : Nat) (f : Nat → Int) (i k : Int) (w : World) (h : Rd w w.heap.size A n (U8 f)) (hi : In64 i) (hk : In64 k) (hn : n ≤ 140737488355328) (hnc : n ≤ c) :
    Calls Try.prog 22 #[.slice A n c, .int .i64 i, .int .i64 k] w (CutPost f n i k w) := by
  obtain ⟨i0, hi0, hz0, hz1, hz2⟩ := info_parts Try.info_u8
  by_cases h0 : k < 0
  · have d1 : decide (k < 0) = true := by simpa using h0
    obtain ⟨e1, e2⟩ := cut_no (n := n) (i := i) (k := k) (by omega)
    have E1 := Lib.hid e1; have E2 := Lib.hid e2; clear e1 e2 h h0
    go_enter Try.func22, Try.ntmps22
    go_wp2
    go_ret2
    exact ⟨none, 0, 0, by rw [E1.out]; rfl, E2.out.symm, Nat.le_refl _, Nw.zero, Since.refl _⟩
  have d0 : decide (k < 0) = false := by simpa using h0
  by_cases h3 : Fits n i k
  · have d3 : decide (Fits n i k) = true := by simpa using h3
    obtain ⟨p, rfl⟩ : ∃ p : Nat, i = p := ⟨i.toNat, by have := h3.1; omega⟩
    obtain ⟨m, rfl⟩ : ∃ m : Nat, k = m := ⟨k.toNat, by omega⟩
    have h4 : p + m ≤ n := by have := h3.2.2; omega
    obtain ⟨e1, e2⟩ := cut_yes (n := n) (i := p) (k := m) ⟨by omega, h3⟩
    have E1 := Lib.hid e1; have E2 := Lib.hid e2; clear e1 e2 h0
    have hp : (p : Int) ≤ n := by omega
    have hmn : (m : Int) ≤ n := by omega
    have b1 : 1 * m ≤ 281474976710656 := by omega
    have b2 : m ≤ maxLen := by simp only [maxLen]; omega
    have hD := h.drop (k := p) (cap := c) (m := n - p) (by omega) hnc
    have hmin : m = Nat.min (n - p) m := (Nat.min_eq_right (by omega)).symm
    have HM := Lib.hid hmin; clear hmin
    clear h3 h
    go_enter Try.func22, Try.ntmps22
    go_wp2_with (first | (go_at_call 35; refine (be_holds _ n c p m w hi hk hn).mono ?_; rintro e w2 ⟨rfl, rfl⟩) | (at_make; refine wpList_make_tab _ (by rfl) _ _ _ (by rfl) 5 i0 .u8 1 Try.underlying22 hi0 hz0 hz1 hz2 .i64 .i64 m (by rfl) (by rfl) b1 b2 ?_; intro w1 hown1 hS1; have hall1 := All.of_own hown1; have hA1 := hD.since (Nat.le_refl _) hS1; clear hown1) | (refine wpList_copy_all (by rfl) _ _ _ _ (by rfl) 5 Try.underlying22 Try.size_u8' _ _ m m _ _ (by rfl) (by rfl) w2.heap.size 0 m m 5 _ _ hall1 w2.heap.size hA1 HM.out (fun _ => rfl) (by omega) tab_ones w2 hS1 (Nat.le_refl _) ?_; intro w3 hall3 hS3; clear hall1 hA1 hS1))
    all_goals
      go_ret2
      refine ⟨_, m, m, by rw [E1.out]; rfl, E2.out.symm, Nat.le_refl _, fun _ => ⟨_, rfl, Nat.le_refl _, (hall3.congr (fun j hj => ?_)).row⟩, hS3⟩
      simp only [U8, IntRow, Nat.zero_le, true_and, Nat.zero_add, Nat.sub_zero, if_pos hj]
      rfl
  · have d3 : decide (Fits n i k) = false := by simpa using h3
    obtain ⟨e1, e2⟩ := cut_no (n := n) (i := i) (k := k) (by simp [h3])
    have E1 := Lib.hid e1; have E2 := Lib.hid e2; clear e1 e2 h h0 h3
    go_enter Try.func22, Try.ntmps22
    go_wp2_with (go_at_call 35; refine (be_holds _ n c i k w hi hk hn).mono ?_; rintro e w2 ⟨rfl, rfl⟩)
    go_ret2
    exact ⟨none, 0, 0, by rw [E1.out]; rfl, E2.out.symm, Nat.le_refl _, Nw.zero, Since.refl _⟩

set_option maxHeartbeats 4000000 in
theorem ref_cut (A : Option Addr) (n c : Nat) (f : Nat → Int) (i k : Int) (w : World) (h : Rd w w.heap.size A n (U8 f)) (hi : In64 i) (hk : In64 k) (hn : n ≤ 140737488355328) (hnc : n ≤ c) :
    Calls Try.prog 23 #[.slice A n c, .int .i64 i, .int .i64 k] w (CutPost f n i k w) := by
  by_cases h3 : 0 ≤ k ∧ Fits n i k
  · have d3 : decide (0 ≤ k ∧ Fits n i k) = true := by simpa using h3
    obtain ⟨e1, e2⟩ := cut_yes (n := n) (i := i) (k := k) h3
    obtain ⟨h0, h3⟩ := h3
    obtain ⟨p, rfl⟩ : ∃ p : Nat, i = p := ⟨i.toNat, by have := h3.1; omega⟩
    obtain ⟨m, rfl⟩ : ∃ m : Nat, k = m := ⟨k.toNat, by omega⟩
    have d4 : decide (Fits n (p : Int) (m : Int)) = true := by simpa using h3
    have h4 : p + m ≤ n := by have := h3.2.2; omega
    have E1 := Lib.hid e1; have E2 := Lib.hid e2; clear e1 e2 h0
    have hp : (p : Int) ≤ n := by omega
    have hmn : (m : Int) ≤ n := by omega
    have hpc : (p : Int) + m ≤ c := by omega
    have hD := h.drop (k := p) (cap := c) (m := m) (by omega) hnc
    clear h3 h
    go_enter Try.func23, Try.ntmps23
    go_wp2_with (first | (go_at_call 36; refine (ref_there _ n c p m w hi hk hn).mono ?_; rintro e w2 ⟨rfl, rfl⟩) | (go_at_call 14; refine (ref_copy _ m _ (fun j => f (p + j)) w2 hD (by omega)).mono ?_; rintro e w3 ⟨g, cap, rfl, hown, hS⟩))
    all_goals
      go_ret2
      exact ⟨_, m, cap, by rw [E1.out]; rfl, E2.out.symm, hown.cap, fun _ => ⟨_, rfl, hown.base, hown.row⟩, hS⟩
  · have d3 : decide (0 ≤ k ∧ Fits n i k) = false := by simpa using h3
    obtain ⟨e1, e2⟩ := cut_no h3
    have E1 := Lib.hid e1; have E2 := Lib.hid e2; clear e1 e2 h h3
    go_enter Try.func23, Try.ntmps23
    go_wp2_with (go_at_call 36; refine (ref_there _ n c i k w hi hk hn).mono ?_; rintro e w2 ⟨rfl, rfl⟩)
    go_ret2
    exact ⟨none, 0, 0, by rw [E1.out]; rfl, E2.out.symm, Nat.le_refl _, Nw.zero, Since.refl _⟩

def layE (n m : Nat) (i : Int) : Int := if Fits n i m then 0 else 3
def layN (n m : Nat) (i : Int) : Nat := if Fits n i m then n else 0
def layF (f o : Nat → Int) (m : Nat) (i : Int) (j : Nat) : Int := if i.toNat ≤ j ∧ j < i.toNat + m then o (j - i.toNat) else f j
theorem lay_no {n m : Nat} {i : Int} (h : ¬ Fits n i m) : layE n m i = 3 ∧ layN n m i = 0 := by simp [layE, layN, h]
theorem lay_yes {n m : Nat} {i : Int} (h : Fits n i m) : layE n m i = 0 ∧ layN n m i = n := by simp [layE, layN, h]
/-- What 'Lay' leaves. -/
def LayPost (f o : Nat → Int) (n m : Nat) (i : Int) (w : World) (e : Ending) (w' : World) : Prop := ∃ A' l cap, e = .returned (.tuple #[.slice A' l cap, .int .i64 (layE n m i)]) ∧ l = layN n m i ∧ l ≤ cap ∧ Nw w' w.heap.size A' l (U8 (layF f o m i)) ∧ Since w w'

set_option maxHeartbeats 4000000 in
theorem be_lay (A B : Option Addr) (n c m d : Nat) (f o : Nat → Int) (i : Int) (w : World) (h : Rd w w.heap.size A n (U8 f)) (hB : Rd w w.heap.size B m (U8 o)) (hi : In64 i) (hn : n ≤ 140737488355328) (hm : m ≤ 140737488355328) :
    Calls Try.prog 24 #[.slice A n c, .int .i64 i, .slice B m d] w (LayPost f o n m i w) := by
  obtain ⟨i0, hi0, hz0, hz1, hz2⟩ := info_parts Try.info_u8
  have hk : In64 (m : Int) := by unfold In64; omega
  by_cases h3 : Fits n i m
  · have d3 : decide (Fits n i m) = true := by simpa using h3
    obtain ⟨p, rfl⟩ : ∃ p : Nat, i = p := ⟨i.toNat, by have := h3.1; omega⟩
    have h4 : p + m ≤ n := by have := h3.2.2; omega
    obtain ⟨e1, e2⟩ := lay_yes (n := n) (i := p) (m := m) h3
    have E1 := Lib.hid e1; have E2 := Lib.hid e2; clear e1 e2
    have hp : (p : Int) ≤ n := by omega
    have b1 : 1 * n ≤ 281474976710656 := by omega
    have b2 : n ≤ maxLen := by simp only [maxLen]; omega
    have hmin : n = Nat.min n n := (Nat.min_self n).symm
    have HM := Lib.hid hmin; clear hmin
    have hmin2 : m = Nat.min m (n - p) := (Nat.min_eq_left (by omega)).symm
    have HM2 := Lib.hid hmin2; clear hmin2
    clear h3
    go_enter Try.func24, Try.ntmps24
    go_wp2_with (first | (go_at_call 35; refine (be_holds _ n c p m w hi hk hn).mono ?_; rintro e w2 ⟨rfl, rfl⟩) | (at_make; refine wpList_make_tab _ (by rfl) _ _ _ (by rfl) 5 i0 .u8 1 Try.underlying22 hi0 hz0 hz1 hz2 .i64 .i64 n (by rfl) (by rfl) b1 b2 ?_; intro w1 hown1 hS1; have hall1 := All.of_own hown1; have hA1 := h.since (Nat.le_refl _) hS1; clear hown1; have tok := True.intro) | (refine wpList_copy_all (by rfl) _ _ _ _ (by rfl) 5 Try.underlying22 Try.size_u8' _ _ n n _ _ (by rfl) (by rfl) w2.heap.size 0 n n 5 _ _ hall1 w2.heap.size hA1 HM.out (fun _ => rfl) (by omega) tab_ones w2 hS1 (Nat.le_refl _) ?_; intro w3 hall3 hS3; clear hall1 hA1 hS1; have hB1 := hB.since (Nat.le_refl _) hS3) | (refine wpList_copy_all (by rfl) _ _ _ _ (by rfl) 5 Try.underlying22 Try.size_u8' _ _ (n - p) _ _ _ (by rfl) (by rfl) w2.heap.size p n m 5 _ _ hall3 w2.heap.size hB1 HM2.out ?_ (by omega) tab_ones w2 hS3 (Nat.le_refl _) ?_; (focus (intro hh; rw [if_neg (by omega)])); intro w4 hall4 hS4; clear hall3 hB1 hS3))
    all_goals
      subst_vars
      go_ret2
      refine ⟨some ⟨w2.heap.size, 0, none⟩, _, _, by rw [E1.out]; rfl, E2.out.symm, Nat.le_refl _, fun _ => ⟨_, rfl, Nat.le_refl _, (hall4.congr (fun j hj => ?_)).row⟩, hS4⟩
      simp only [U8, IntRow, layF, Nat.zero_le, true_and, Nat.zero_add, Nat.sub_zero, Int.toNat_natCast]
      split
      · rfl
      · first | rfl | rw [if_pos hj]
  · have d3 : decide (Fits n i m) = false := by simpa using h3
    obtain ⟨e1, e2⟩ := lay_no h3
    have E1 := Lib.hid e1; have E2 := Lib.hid e2; clear e1 e2 h h3
    go_enter Try.func24, Try.ntmps24
    go_wp2_with (go_at_call 35; refine (be_holds _ n c i m w hi hk hn).mono ?_; rintro e w2 ⟨rfl, rfl⟩)
    go_ret2
    exact ⟨none, 0, 0, by rw [E1.out]; rfl, E2.out.symm, Nat.le_refl _, Nw.zero, Since.refl _⟩

set_option maxHeartbeats 4000000 in
theorem ref_lay (A B : Option Addr) (n c m d : Nat) (f o : Nat → Int) (i : Int) (w : World) (h : Rd w w.heap.size A n (U8 f)) (hB : Rd w w.heap.size B m (U8 o)) (hi : In64 i) (hn : n ≤ 140737488355328) (hm : m ≤ 140737488355328) :
    Calls Try.prog 25 #[.slice A n c, .int .i64 i, .slice B m d] w (LayPost f o n m i w) := by
  have hk : In64 (m : Int) := by unfold In64; omega
  by_cases h3 : Fits n i m
  · have d3 : decide (0 ≤ (m : Int) ∧ Fits n i m) = true := by simp [h3]
    obtain ⟨p, rfl⟩ : ∃ p : Nat, i = p := ⟨i.toNat, by have := h3.1; omega⟩
    have d4 : decide (Fits n (p : Int) (m : Int)) = true := by simpa using h3
    have h4 : p + m ≤ n := by have := h3.2.2; omega
    obtain ⟨e1, e2⟩ := lay_yes (n := n) (i := p) (m := m) h3
    have E1 := Lib.hid e1; have E2 := Lib.hid e2; clear e1 e2
    clear h3
    go_enter Try.func25, Try.ntmps25
    go_wp2_with (first | (go_at_call 36; refine (ref_there _ n c p m w hi hk hn).mono ?_; rintro e w2 ⟨rfl, rfl⟩) | (go_at_call 14; refine (ref_copy _ n _ f w2 h (by omega)).mono ?_; rintro e w3 ⟨g, cap, rfl, hown, hS⟩))
    have hB1 := hB.since (Nat.le_refl _) hS
    have hcap := hown.cap
    have hg := hown.base
    have hR0 := hown.row
    clear hown h hB
    go_loopw [9, 20] (fun _ y wr => ∃ j : Nat, j ≤ m ∧ y = .int .i64 j ∧ Since w2 wr ∧ Row wr g n (U8 (layF f o j p))) (fun _ y _ => m - (intOf y).toNat)
    case atStart => exact ⟨0, by omega, rfl, hS, hR0.congr (fun q hq => by simp only [U8, IntRow, layF]; rw [if_neg (by omega)])⟩
    case round =>
      obtain ⟨j, hj, rfl, hSr, hR⟩ := hrel
      by_cases hjm : j < m
      · have hjm' : (j : Int) < m := by omega
        obtain ⟨b, ob, rfl, hb, hc⟩ := hB1 (by omega)
        have hx : wr.cell? ⟨b, ob + j, none⟩ = some (.int .u8 (o j)) := by rw [hSr.1 b _ hb, ← hS.1 b _ hb]; exact hc j hjm
        have hcell := hR.1 (p + j) (by omega)
        have hfr := hR.2.1 (p + j)
        have hpj : (p : Int) + j < n := by omega
        clear hc hR0 hB1
        go_wp2
        refine ⟨⟨j + 1, by omega, by simp, hSr.setCell hg _, (hR.set (p + j) _).congr (fun t ht => ?_)⟩, by simp [intOf]; omega⟩
        simp only [U8, IntRow, layF, Int.toNat_natCast]
        by_cases e : t = p + j
        · subst e
          rw [if_pos rfl, if_pos (by omega), show p + j - p = j by omega]
        · rw [if_neg e]
          by_cases e2 : p ≤ t ∧ t < p + j
          · rw [if_pos e2, if_pos (by omega)]
          · rw [if_neg e2, if_neg (by omega)]
      · obtain rfl : m = j := by omega
        clear hB1 hR0
        go_wp2
        go_ret2
        exact ⟨_, _, _, by rw [E1.out]; rfl, E2.out.symm, hcap, fun _ => ⟨_, rfl, hg, hR⟩, hSr⟩
  · have d3 : decide (0 ≤ (m : Int) ∧ Fits n i m) = false := by simp [h3]
    have d4 : decide (Fits n i m) = false := by simpa using h3
    obtain ⟨e1, e2⟩ := lay_no h3
    have E1 := Lib.hid e1; have E2 := Lib.hid e2; clear e1 e2 h h3
    go_enter Try.func25, Try.ntmps25
    go_wp2_with (go_at_call 36; refine (ref_there _ n c i m w hi hk hn).mono ?_; rintro e w2 ⟨rfl, rfl⟩)
    go_ret2
    exact ⟨none, 0, 0, by rw [E1.out]; rfl, E2.out.symm, Nat.le_refl _, Nw.zero, Since.refl _⟩
end Go.Proofs.Ytaojdflnfdabhaa
