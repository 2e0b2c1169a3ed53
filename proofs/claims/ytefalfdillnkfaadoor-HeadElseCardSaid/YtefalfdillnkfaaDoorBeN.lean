/-
  Layer 2: 'Lay', walked, program and reference; a slice that is new, to be written.
-/
import Derived.Test.YtefalfdillnkfaaDoorBeB
import Derived.Test.YtefalfdillnkfaaDoorKit3
namespace Go.Proofs.YtefalfdillnkfaaDoor
open Go.RowKit
set_option linter.unusedVariables false

/-- A slice that is new since B, to be written: its n elements read as V. -/
def Nw (w : World) (B : Nat) (A : Option Addr) (n : Nat) (V : Nat → Value) : Prop := 0 < n → ∃ g, A = some ⟨g, 0, none⟩ ∧ B ≤ g ∧ Row w g n V
section
variable {w w' : World} {B n : Nat} {A : Option Addr} {V U : Nat → Value}
theorem Nw.zero : Nw w B A 0 V := fun h => absurd h (by omega)
theorem Nw.rd (h : Nw w B A n V) : Rd w w.heap.size A n V := fun hn => by
  obtain ⟨g, rfl, hb, hr⟩ := h hn
  exact Rd.of_row hr hn
theorem Nw.since (h : Nw w B A n V) (k : Since w w') : Nw w' B A n V := fun hn => by
  obtain ⟨g, rfl, hb, hr⟩ := h hn
  exact ⟨g, rfl, hb, hr.since k⟩
theorem Nw.congr (h : Nw w B A n V) (e : ∀ j, j < n → V j = U j) : Nw w B A n U := fun hn => by
  obtain ⟨g, rfl, hb, hr⟩ := h hn
  exact ⟨g, rfl, hb, hr.congr e⟩
end
theorem Tryd.size_u8' : (Tryd.prog.info? 5).map (·.size) = some 1 := by kernel_rfl
theorem Own.cap {w : World} {B g cap n : Nat} {f : Nat → Int} (h : Own w B g cap n f) : n ≤ cap := by
  rcases h.2 with ⟨e1, _⟩ | ⟨_, _, _, e1, _, _, hnc, _⟩
  · cases e1
  · injection e1 with _ _ e3; omega
def layE (n m : Nat) (i : Int) : Int := if Fits n i m then 0 else 3
def layN (n m : Nat) (i : Int) : Nat := if Fits n i m then n else 0
def layF (f o : Nat → Int) (m : Nat) (i : Int) (j : Nat) : Int := if i.toNat ≤ j ∧ j < i.toNat + m then o (j - i.toNat) else f j
theorem lay_no {n m : Nat} {i : Int} (h : ¬ Fits n i m) : layE n m i = 3 ∧ layN n m i = 0 := by simp [layE, layN, h]
theorem lay_yes {n m : Nat} {i : Int} (h : Fits n i m) : layE n m i = 0 ∧ layN n m i = n := by simp [layE, layN, h]
/-- What 'Lay' leaves. -/
def LayPost (f o : Nat → Int) (n m : Nat) (i : Int) (w : World) (e : Ending) (w' : World) : Prop := ∃ A' l cap, e = .returned (.tuple #[.slice A' l cap, .int .i64 (layE n m i)]) ∧ l = layN n m i ∧ l ≤ cap ∧ Nw w' w.heap.size A' l (U8 (layF f o m i)) ∧ Since w w'

set_option maxHeartbeats 4000000 in
theorem be_lay (A B : Option Addr) (n c m d : Nat) (f o : Nat → Int) (i : Int) (w : World) (h : Rd w w.heap.size A n (U8 f)) (hB : Rd w w.heap.size B m (U8 o)) (hi : In64 i) (hn : n ≤ 140737488355328) (hm : m ≤ 140737488355328) :
    Calls Tryd.prog 33 #[.slice A n c, .int .i64 i, .slice B m d] w (LayPost f o n m i w) := by
  obtain ⟨i0, hi0, hz0, hz1, hz2⟩ := info_parts Tryd.info_u8
  have hk : In64 (m : Int) := by unfold In64; omega
  by_cases h3 : Fits n i m
  · have d3 : decide (Fits n i m) = true := by simpa using h3
    obtain ⟨p, rfl⟩ : ∃ p : Nat, i = p := ⟨i.toNat, by have := h3.1; omega⟩
    have h4 : p + m ≤ n := by have := h3.2.2; omega
    obtain ⟨e1, e2⟩ := lay_yes (n := n) (i := p) (m := m) h3
    have E1 := Lib.hid e1; have E2 := Lib.hid e2; clear e1 e2
    have hp : (p : Int) ≤ n := by omega
    have b1 : 1 * n ≤ 281474976710656 := by omega
    have b2 : n ≤ maxLen := by simp only [maxLen]; omega
    have hmin : n = Nat.min n n := (Nat.min_self n).symm
    have HM := Lib.hid hmin; clear hmin
    have hmin2 : m = Nat.min m (n - p) := (Nat.min_eq_left (by omega)).symm
    have HM2 := Lib.hid hmin2; clear hmin2
    clear h3
    go_enter Tryd.func33, Tryd.ntmps33
    go_wp2_with (first | (go_at_call 30; refine (be_holds _ n c p m w hi hk hn).mono ?_; rintro e w2 ⟨rfl, rfl⟩) | (at_make; refine wpList_make_tab _ (by rfl) _ _ _ (by rfl) 5 i0 .u8 1 Tryd.underlying22 hi0 hz0 hz1 hz2 .i64 .i64 n (by rfl) (by rfl) b1 b2 ?_; intro w1 hown1 hS1; have hall1 := All.of_own hown1; have hA1 := h.since (Nat.le_refl _) hS1; clear hown1; have tok := True.intro) | (refine wpList_copy_all (by rfl) _ _ _ _ (by rfl) 5 Tryd.underlying22 Tryd.size_u8' _ _ n n _ _ (by rfl) (by rfl) w2.heap.size 0 n n 5 _ _ hall1 w2.heap.size hA1 HM.out (fun _ => rfl) (by omega) tab_ones w2 hS1 (Nat.le_refl _) ?_; intro w3 hall3 hS3; clear hall1 hA1 hS1; have hB1 := hB.since (Nat.le_refl _) hS3) | (refine wpList_copy_all (by rfl) _ _ _ _ (by rfl) 5 Tryd.underlying22 Tryd.size_u8' _ _ (n - p) _ _ _ (by rfl) (by rfl) w2.heap.size p n m 5 _ _ hall3 w2.heap.size hB1 HM2.out ?_ (by omega) tab_ones w2 hS3 (Nat.le_refl _) ?_; (focus (intro hh; rw [if_neg (by omega)])); intro w4 hall4 hS4; clear hall3 hB1 hS3))
    all_goals
      subst_vars
      go_ret2
      refine ⟨some ⟨w2.heap.size, 0, none⟩, _, _, by rw [E1.out]; rfl, E2.out.symm, Nat.le_refl _, fun _ => ⟨_, rfl, Nat.le_refl _, (hall4.congr (fun j hj => ?_)).row⟩, hS4⟩
      simp only [U8, IntRow, layF, Nat.zero_le, true_and, Nat.zero_add, Nat.sub_zero, Int.toNat_natCast]
      split
      · rfl
      · first | rfl | rw [if_pos hj]
  · have d3 : decide (Fits n i m) = false := by simpa using h3
    obtain ⟨e1, e2⟩ := lay_no h3
    have E1 := Lib.hid e1; have E2 := Lib.hid e2; clear e1 e2 h h3
    go_enter Tryd.func33, Tryd.ntmps33
    go_wp2_with (go_at_call 30; refine (be_holds _ n c i m w hi hk hn).mono ?_; rintro e w2 ⟨rfl, rfl⟩)
    go_ret2
    exact ⟨none, 0, 0, by rw [E1.out]; rfl, E2.out.symm, Nat.le_refl _, Nw.zero, Since.refl _⟩

set_option maxHeartbeats 4000000 in
theorem ref_lay (A B : Option Addr) (n c m d : Nat) (f o : Nat → Int) (i : Int) (w : World) (h : Rd w w.heap.size A n (U8 f)) (hB : Rd w w.heap.size B m (U8 o)) (hi : In64 i) (hn : n ≤ 140737488355328) (hm : m ≤ 140737488355328) :
    Calls Tryd.prog 35 #[.slice A n c, .int .i64 i, .slice B m d] w (LayPost f o n m i w) := by
  have hk : In64 (m : Int) := by unfold In64; omega
  by_cases h3 : Fits n i m
  · have d3 : decide (0 ≤ (m : Int) ∧ Fits n i m) = true := by simp [h3]
    obtain ⟨p, rfl⟩ : ∃ p : Nat, i = p := ⟨i.toNat, by have := h3.1; omega⟩
    have d4 : decide (Fits n (p : Int) (m : Int)) = true := by simpa using h3
    have h4 : p + m ≤ n := by have := h3.2.2; omega
    obtain ⟨e1, e2⟩ := lay_yes (n := n) (i := p) (m := m) h3
    have E1 := Lib.hid e1; have E2 := Lib.hid e2; clear e1 e2
    clear h3
    go_enter Tryd.func35, Tryd.ntmps35
    go_wp2_with (first | (go_at_call 37; refine (ref_there _ n c p m w hi hk hn).mono ?_; rintro e w2 ⟨rfl, rfl⟩) | (go_at_call 9; refine (ref_copy _ n _ f w2 h (by omega)).mono ?_; rintro e w3 ⟨g, cap, rfl, hown, hS⟩))
    have hB1 := hB.since (Nat.le_refl _) hS
    have hcap := hown.cap
    have hg := hown.base
    have hR0 := hown.row
    clear hown h hB
    go_loopw [9, 20] (fun _ y wr => ∃ j : Nat, j ≤ m ∧ y = .int .i64 j ∧ Since w2 wr ∧ Row wr g n (U8 (layF f o j p))) (fun _ y _ => m - (intOf y).toNat)
    case atStart => exact ⟨0, by omega, rfl, hS, hR0.congr (fun q hq => by simp only [U8, IntRow, layF]; rw [if_neg (by omega)])⟩
    case round =>
      obtain ⟨j, hj, rfl, hSr, hR⟩ := hrel
      by_cases hjm : j < m
      · have hjm' : (j : Int) < m := by omega
        obtain ⟨b, ob, rfl, hb, hc⟩ := hB1 (by omega)
        have hx : wr.cell? ⟨b, ob + j, none⟩ = some (.int .u8 (o j)) := by rw [hSr.1 b _ hb, ← hS.1 b _ hb]; exact hc j hjm
        have hcell := hR.1 (p + j) (by omega)
        have hfr := hR.2.1 (p + j)
        have hpj : (p : Int) + j < n := by omega
        clear hc hR0 hB1
        go_wp2
        refine ⟨⟨j + 1, by omega, by simp, hSr.setCell hg _, (hR.set (p + j) _).congr (fun t ht => ?_)⟩, by simp [intOf]; omega⟩
        simp only [U8, IntRow, layF, Int.toNat_natCast]
        by_cases e : t = p + j
        · subst e
          rw [if_pos rfl, if_pos (by omega), show p + j - p = j by omega]
        · rw [if_neg e]
          by_cases e2 : p ≤ t ∧ t < p + j
          · rw [if_pos e2, if_pos (by omega)]
          · rw [if_neg e2, if_neg (by omega)]
      · obtain rfl : m = j := by omega
        clear hB1 hR0
        go_wp2
        go_ret2
        exact ⟨_, _, _, by rw [E1.out]; rfl, E2.out.symm, hcap, fun _ => ⟨_, rfl, hg, hR⟩, hSr⟩
  · have d3 : decide (0 ≤ (m : Int) ∧ Fits n i m) = false := by simp [h3]
    have d4 : decide (Fits n i m) = false := by simpa using h3
    obtain ⟨e1, e2⟩ := lay_no h3
    have E1 := Lib.hid e1; have E2 := Lib.hid e2; clear e1 e2 h h3
    go_enter Tryd.func35, Tryd.ntmps35
    go_wp2_with (go_at_call 37; refine (ref_there _ n c i m w hi hk hn).mono ?_; rintro e w2 ⟨rfl, rfl⟩)
    go_ret2
    exact ⟨none, 0, 0, by rw [E1.out]; rfl, E2.out.symm, Nat.le_refl _, Nw.zero, Since.refl _⟩
end Go.Proofs.YtefalfdillnkfaaDoor
