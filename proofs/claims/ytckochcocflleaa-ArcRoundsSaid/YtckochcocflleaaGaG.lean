/-
  Layer 10: the reference's 'Turn', 'Quarter', 'All', 'Same', walked.
-/
import Derived.Test.YtckochcocflleaaGaF
namespace Go.Proofs.Ytckochcocflleaa
open Go.RowKit
set_option linter.unusedVariables false

def Tiny (x : Int) : Prop := -4194304 ≤ x ∧ x ≤ 4194304
theorem Tiny.near {x : Int} (h : Tiny x) : Near x := by unfold Tiny at h; unfold Near; omega
theorem Tiny.sub {x y : Int} (h : Tiny x) (k : Tiny y) : Near (x - y) := by unfold Tiny at *; unfold Near; omega
theorem tiny_of {x y : Int} (h : goodB x y = true) : Tiny x ∧ Tiny y := by have := goodB_iff.1 h; unfold Tiny; omega
theorem cross_in64 {x y u v : Int} (h1 : Near x) (h2 : Near y) (h3 : Near u) (h4 : Near v) : In64 (crossI x y u v) := by
  have b1 := near_mul h1 h4; have b2 := near_mul h2 h3
  unfold crossI In64
  omega

/-- A block holds a point, and may be written. -/
def PtW (w : World) (b : Nat) (x y : Int) : Prop := PtAt w b x y ∧ ∀ j, w.frozen? ⟨b, j, none⟩ = false
theorem ptw_new (w : World) (b : Nat) (hb : b = w.heap.size) (x y : Int) (t : TypeId) : PtW (w.alloc (.cells #[.int .i64 x, .int .i64 y] t)) b x y := by
  refine ⟨pt_new w b hb x y t, fun j => ?_⟩
  subst hb
  rw [frozen?_alloc_cells]
  simp [World.frozen?]
theorem PtW.since {w w' : World} {b : Nat} {x y : Int} (h : PtW w b x y) (k : Since w w') : PtW w' b x y := ⟨h.1.since k, fun j => (k.2.1 _ _ h.1.2.2).trans (h.2 j)⟩
theorem PtW.alloc {w : World} {b : Nat} {x y : Int} (h : PtW w b x y) (o : Obj) : PtW (w.alloc o) b x y := h.since ((Since.refl w).alloc o)
theorem PtW.put {w : World} {b : Nat} {x y : Int} (h : PtW w b x y) (u v : Int) : PtW ((w.setCell ⟨b, 0, none⟩ (.int .i64 u)).setCell ⟨b, 1, none⟩ (.int .i64 v)) b u v := by
  obtain ⟨⟨h1, h2, h3⟩, h4⟩ := h
  refine ⟨⟨?_, ?_, by simpa [World.setCell] using h3⟩, fun j => by rw [World.frozen?_setCell, World.frozen?_setCell]; exact h4 j⟩
  · rw [cell_set, if_neg (by omega), cell_set, if_pos ⟨rfl, rfl⟩, h1]; rfl
  · rw [cell_set, if_pos ⟨rfl, rfl⟩, cell_set, if_neg (by omega), h2]; rfl
theorem PtW.far {w : World} {b b' : Nat} {x y : Int} (h : PtW w b x y) (hb : b' ≠ b) (o : Nat) (v : Value) : PtW (w.setCell ⟨b', o, none⟩ v) b x y := by
  obtain ⟨⟨h1, h2, h3⟩, h4⟩ := h
  exact ⟨⟨by rw [cell_set, if_neg (fun e => hb e.1)]; exact h1, by rw [cell_set, if_neg (fun e => hb e.1)]; exact h2, by simpa [World.setCell] using h3⟩, fun j => by rw [World.frozen?_setCell]; exact h4 j⟩
theorem go_mod4 (n : Int) : (n.tmod 4 + 4).tmod 4 = n % 4 := by
  rcases Int.lt_or_le n 0 with h | h
  · have h1 : n.tmod 4 = -((-n) % 4) := by
      rw [← Int.tmod_eq_emod_of_nonneg (by omega : 0 ≤ -n), Int.neg_tmod]; omega
    rw [h1, Int.tmod_eq_emod_of_nonneg (by omega)]
    omega
  · rw [Int.tmod_eq_emod_of_nonneg h, Int.tmod_eq_emod_of_nonneg (by omega)]
    omega
set_option maxHeartbeats 8000000 in
theorem rf_quarter (x y n : Int) (h1 : Tiny x) (h2 : Tiny y) (hn : In64 n) (w : World) :
    Calls Try.prog 77 #[Pt x y, .int .i64 n] w fun e w' => e = .returned (Pt (resQ x y n).1 (resQ x y n).2) ∧ Since w w' := by
  have hm4 := go_mod4 n
  have hb := qu_near (x := x) (y := y) (B := 4194304) h1 h2
  obtain ⟨m, hm⟩ : ∃ m : Nat, (n % 4).toNat = m := ⟨_, rfl⟩
  have hmi : n % 4 = (m : Int) := by omega
  rw [hmi] at hm4
  have hr : -3 ≤ n.tmod 4 ∧ n.tmod 4 ≤ 3 := by
    have h1 := Int.tmod_lt_of_pos n (show (0 : Int) < 4 by decide)
    have h2 : -4 < n.tmod 4 := by
      have := Int.lt_tmod_of_pos n (show (0 : Int) < 4 by decide)
      exact this
    omega
  have hm3 : m < 4 := by omega
  unfold resQ
  rw [hm]
  have HB := Lib.hid hb
  generalize hz : n.tmod 4 = z at hm4 hr
  have hr1 := hr.1
  have hr2 := hr.2
  have hw1 : IntKind.i64.wrap (z + 4) = z + 4 := IntWalk.i64_in _ (by omega)
  clear hb h1 h2 hm hmi hr
  unfold Pt
  go_enter Try.func77, Try.ntmps77
  go_wp2
  go_loopw [5] (fun c wr => ∃ k : Nat, k ≤ m ∧ c = .int .i64 ((m : Int) - k) ∧ Since w wr ∧ PtW wr w.heap.size (qu x y k).1 (qu x y k).2 ∧ PtW wr (w.heap.size + 1) 0 0) (fun c _ => (intOf c).toNat)
  case atStart => exact ⟨0, by omega, by simp, by (repeat (first | with_reducible (exact Since.refl _) | with_reducible assumption | with_reducible (refine Since.drew ?_) | with_reducible (refine Since.drewN ?_ _) | with_reducible (refine Since.alloc ?_ _) | (with_reducible (refine Since.setCell ?_ ?_ _); rotate_left; focus (first | (simp; done) | (simp; omega) | omega)) | (with_reducible (refine Since.trans ?_ (by with_reducible assumption))))), (ptw_new w _ rfl x y _).alloc _, ptw_new _ _ (by simp) 0 0 _⟩
  case round =>
    obtain ⟨k, hk, rfl, hSr, hP, hZ⟩ := hrel
    by_cases hkm : k < m
    · have hpos : (0 : Int) < (m : Int) - k := by omega
      obtain ⟨⟨p1, p2, p3⟩, pF⟩ := hP
      have pF0 := pF 0
      have pF1 := pF 1
      have hbk := HB.out k
      have hPk : PtW wr w.heap.size (qu x y k).1 (qu x y k).2 := ⟨⟨p1, p2, p3⟩, pF⟩
      have HQ := Lib.hid (show (qu x y (k + 1)).1 = -(qu x y k).2 ∧ (qu x y (k + 1)).2 = (qu x y k).1 from ⟨rfl, rfl⟩)
      obtain ⟨⟨b1, b2⟩, b3, b4⟩ := hbk
      generalize (qu x y k).1 = N at *
      generalize (qu x y k).2 = M at *
      clear pF
      go_wp2
      refine ⟨⟨k + 1, by omega, by first | (congr 1; omega) | (simp; omega), ?_, by rw [HQ.out.1, HQ.out.2]; exact hPk.put _ _, (hZ.far (by omega) _ _).far (by omega) _ _⟩, by simp [intOf]; omega⟩
      (repeat (first | with_reducible (exact Since.refl _) | with_reducible assumption | with_reducible (refine Since.drew ?_) | with_reducible (refine Since.drewN ?_ _) | with_reducible (refine Since.alloc ?_ _) | (with_reducible (refine Since.setCell ?_ ?_ _); rotate_left; focus (first | (simp; done) | (simp; omega) | omega)) | (with_reducible (refine Since.trans ?_ (by with_reducible assumption)))))
    · obtain rfl : k = m := by omega
      obtain ⟨⟨p1, p2, p3⟩, pF⟩ := hP
      obtain ⟨⟨z1, z2, z3⟩, zF⟩ := hZ
      have zF0 := zF 0
      have zF1 := zF 1
      have hzz : (k : Int) - (k : Int) = 0 := by omega
      clear pF zF
      go_wp2
      refine bodyPost_ret (by simp only [results, Try.results77]; go_simp) rfl ⟨rfl, ?_⟩
      (repeat (first | with_reducible (exact Since.refl _) | with_reducible assumption | with_reducible (refine Since.drew ?_) | with_reducible (refine Since.drewN ?_ _) | with_reducible (refine Since.alloc ?_ _) | (with_reducible (refine Since.setCell ?_ ?_ _); rotate_left; focus (first | (simp; done) | (simp; omega) | omega)) | (with_reducible (refine Since.trans ?_ (by with_reducible assumption)))))
end Go.Proofs.Ytckochcocflleaa
