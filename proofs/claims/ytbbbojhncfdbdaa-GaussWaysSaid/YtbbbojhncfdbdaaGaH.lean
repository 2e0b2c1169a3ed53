/-
  Layer 10: 'Area', program and reference, and the reference's 'Same', walked.
-/
import Derived.Test.YtbbbojhncfdbdaaGaG
import Derived.Deep.QuietTactic
import Derived.BigQuiet
namespace Go.Proofs.Ytbbbojhncfdbdaa
open Go.RowKit
set_option linter.unusedVariables false

/-- Twice the area that the first k sides of a closed way of n points make. -/
def areaTo (X Y : Nat → Int) (n : Nat) : Nat → Int
  | 0 => 0
  | k + 1 => areaTo X Y n k + crossI (X k) (Y k) (X ((k + 1) % n)) (Y ((k + 1) % n))
theorem cross_range {x y u v : Int} (h1 : Near x) (h2 : Near y) (h3 : Near u) (h4 : Near v) : -562949953421312 ≤ crossI x y u v ∧ crossI x y u v ≤ 562949953421312 := by
  have b1 := near_mul h1 h4; have b2 := near_mul h2 h3
  unfold crossI
  omega
theorem areaTo_range {X Y : Nat → Int} {n : Nat} (h : ∀ j, j < n → Near (X j) ∧ Near (Y j)) : ∀ k, k ≤ n → -(k * 562949953421312) ≤ areaTo X Y n k ∧ areaTo X Y n k ≤ k * 562949953421312
  | 0, _ => by simp [areaTo]
  | k + 1, hk => by
    have h0 := areaTo_range h k (by omega)
    have hm : (k + 1) % n < n := Nat.mod_lt _ (by omega)
    have hc := cross_range (h k (by omega)).1 (h k (by omega)).2 (h _ hm).1 (h _ hm).2
    simp only [areaTo]
    omega

set_option maxHeartbeats 8000000 in
theorem ga_area (A : Option Addr) (n c : Nat) (X Y : Nat → Int) (w : World) (h : RdP w w.heap.size A n X Y) (hX : ∀ j, j < n → In64 (X j) ∧ In64 (Y j)) (hn : n ≤ maxLen) :
    Calls Try.prog 28 #[.slice A n c] w fun e w' => e = .returned (.tuple #[.int .i64 (if n ≤ 4096 ∧ allG X Y n = true then areaTo X Y n n else 0), .int .i64 (if 4096 < n then 7 else okE (allG X Y n))]) ∧ Since w w' := by
  have hn' : (n : Int) ≤ 9223372036854775807 := by simp only [maxLen] at hn; omega
  by_cases hbig : 4096 < n
  · have d1 : decide ((4096 : Int) < n) = true := by simp; omega
    rw [if_neg (by omega), if_pos hbig]
    clear h hX hbig
    go_enter Try.func28, Try.ntmps28
    go_wp2
    go_ret2
    exact ⟨rfl, Since.refl _⟩
  have d1 : decide ((4096 : Int) < n) = false := by simp; omega
  rw [if_neg hbig]
  have hGd := fun w' hS => ga_good A n c X Y w' (h.on hS) hX hn
  cases hg : allG X Y n with
  | false =>
    rw [hg] at hGd
    rw [if_neg (by simp)]
    have HG := Lib.hid hGd
    clear h hX hbig hGd hg
    simp only [okE]
    go_enter Try.func28, Try.ntmps28
    go_wp2_with (go_at_call 20; refine (HG.out _ (Since.refl _)).mono ?_; rintro e w1 ⟨rfl, hS1⟩)
    go_ret2
    exact ⟨rfl, hS1⟩
  | true =>
    rw [hg] at hGd
    rw [if_pos ⟨by omega, rfl⟩]
    have hgood := allG_iff.1 hg
    have hnear : ∀ j, j < n → Near (X j) ∧ Near (Y j) := fun j hj => by
      obtain ⟨n1, n2, _, _⟩ := good_near (hgood j hj); exact ⟨n1, n2⟩
    have HR := Lib.hid (fun k hk => areaTo_range hnear k hk)
    have HG := Lib.hid hGd
    have hn4 : n ≤ 4096 := by omega
    clear hX hbig hGd hg
    simp only [okE, if_true]
    go_enter Try.func28, Try.ntmps28
    go_wp2_with (go_at_call 20; refine (HG.out _ (Since.refl _)).mono ?_; rintro e w1 ⟨rfl, hS1⟩)
    go_loopw [4, 16] (fun s y wr => ∃ j : Nat, j ≤ n ∧ s = .int .i64 (areaTo X Y n j) ∧ y = .int .i64 (j : Int) ∧ Since w wr) (fun _ y _ => n - (intOf y).toNat)
    case atStart => exact ⟨0, by omega, rfl, rfl, hS1⟩
    case round =>
      obtain ⟨j, hj, rfl, rfl, hSr⟩ := hrel
      by_cases hjn : j < n
      · have hjn' : (j : Int) < n := by omega
        obtain ⟨b, o, rfl, hb, hc⟩ := h (by omega)
        have hblt : b < wr.heap.size := by have := hSr.below.size; omega
        have c1 : wr.cell? ⟨b, o + j * 2, none⟩ = some (.int .i64 (X j)) := (hSr.1 _ _ hb).trans (hc j hjn).1
        have c2 : wr.cell? ⟨b, o + j * 2 + 1, none⟩ = some (.int .i64 (Y j)) := (hSr.1 _ _ hb).trans (hc j hjn).2
        have hi : (j + 1) % n < n := Nat.mod_lt _ (by omega)
        have hmod : ((j : Int) + 1) % (n : Int) = (((j + 1) % n : Nat) : Int) := by rw [Int.natCast_emod, Int.natCast_add]; rfl
        have hr1 := HR.out j (by omega)
        obtain ⟨n1, n2, m1, m2⟩ := good_near (hgood j hjn)
        obtain ⟨n3, n4, m3, m4⟩ := good_near (hgood _ hi)
        have hA : areaTo X Y n (j + 1) = areaTo X Y n j + crossI (X j) (Y j) (X ((j + 1) % n)) (Y ((j + 1) % n)) := rfl
        have hcr := cross_range n1 n2 n3 n4
        have hI := inB_stands (fl_stands m1) (fl_stands m2) (fl_stands m3) (fl_stands m4) n1 n2 n3 n4
        have hin := fun w => ga_inner (fl (X j)) (fl (Y j)) (fl (X ((j + 1) % n))) (fl (Y ((j + 1) % n))) (fl_stands m1) (fl_stands m2) (fl_stands m3) (fl_stands m4) n1 n2 n3 n4 w
        have hcv := toInt_run hI.2.2 (by unfold crossI at hcr; omega)
        have e1 : wr.cell? ⟨b, o + (j + 1) % n * 2, none⟩ = some (.int .i64 (X ((j + 1) % n))) := (hSr.1 _ _ hb).trans (hc _ hi).1
        have e2 : wr.cell? ⟨b, o + (j + 1) % n * 2 + 1, none⟩ = some (.int .i64 (Y ((j + 1) % n))) := (hSr.1 _ _ hb).trans (hc _ hi).2
        have hA' := Lib.hid hA
        unfold crossI at hA' hcr
        generalize (inB (fl (X j)) (fl (Y j)) (fl (X ((j + 1) % n))) (fl (Y ((j + 1) % n)))).1 = z1 at *
        generalize (inB (fl (X j)) (fl (Y j)) (fl (X ((j + 1) % n))) (fl (Y ((j + 1) % n)))).2 = z2 at *
        generalize X j * Y ((j + 1) % n) - Y j * X ((j + 1) % n) = N at *
        generalize (j + 1) % n = i at *
        generalize X j = x at *
        generalize Y j = y at *
        generalize X i = u at *
        generalize Y i = v at *
        generalize areaTo X Y n j = S at *
        have hi' : (i : Int) < n := by omega
        have hb1 := hr1.1
        have hb2 := hr1.2
        have hb3 := hcr.1
        have hb4 := hcr.2
        have hsw : -9223372036854775808 ≤ S + N ∧ S + N ≤ 9223372036854775807 := by omega
        have hsw1 := hsw.1
        have hsw2 := hsw.2
        have hwN : IntKind.i64.wrap (S + N) = S + N := IntWalk.i64_in _ (by omega)
        have hnum := fun x y w => ga_number x y w
        unfold Pt at hnum
        have HI := Lib.hid hin; have HN := Lib.hid hnum
        clear hc h hI hin hnum hA HR hr1 hcr n1 n2 n3 n4 m1 m2 m3 m4 hgood hnear hsw HG
        go_wp2_with fail
        refine wp_named fun w3 hw3 => ?_
        have hP1 : PtAt w3 wr.heap.size x y := by subst hw3; exact (pt_new wr _ rfl x y _).alloc _
        have hP2 : PtAt w3 (wr.heap.size + 1) u v := by subst hw3; exact pt_new _ (wr.heap.size + 1) (by simp) u v _
        have hS3 : Since w w3 := by subst hw3; (repeat (first | with_reducible (exact Since.refl _) | with_reducible assumption | with_reducible (refine Since.drew ?_) | with_reducible (refine Since.drewN ?_ _) | with_reducible (refine Since.alloc ?_ _) | (with_reducible (refine Since.setCell ?_ ?_ _); rotate_left; focus (first | (simp; done) | (simp; omega) | omega)) | (with_reducible (refine Since.trans ?_ (by with_reducible assumption)))))
        clear hw3 c1 c2 e1 e2
        obtain ⟨p1, p2, p3⟩ := hP1
        obtain ⟨p4, p5, p6⟩ := hP2
        (refine wp_named fun wr1 hwr1 => ?_; go_region_held3 (fun w' => (∀ b o, b < wr1.heap.size → w'.cell? ⟨b, o, none⟩ = wr1.cell? ⟨b, o, none⟩) ∧ (∀ b o, b < wr1.heap.size → w'.frozen? ⟨b, o, none⟩ = wr1.frozen? ⟨b, o, none⟩) ∧ (∀ k, k < wr1.heap.size → k < w'.heap.size) ∧ Below wr1.heap.size wr1 w') ((subst hwr1; (repeat (with_reducible (refine since_put ?_ ?_ _); rotate_left; focus (first | (simp; done) | (simp; omega) | omega))); first | assumption | (refine since_step (by assumption) ?_; first | assumption | ((repeat (first | with_reducible (exact Since.refl _) | with_reducible assumption | with_reducible (refine Since.drew ?_) | with_reducible (refine Since.drewN ?_ _) | with_reducible (refine Since.alloc ?_ _) | (with_reducible (refine Since.setCell ?_ ?_ _); rotate_left; focus (first | (simp; done) | (simp; omega) | omega)))); done)) | (refine since_step (Since.refl _) ?_; first | assumption | ((repeat (first | with_reducible (exact Since.refl _) | with_reducible assumption | with_reducible (refine Since.drew ?_) | with_reducible (refine Since.drewN ?_ _) | with_reducible (refine Since.alloc ?_ _) | (with_reducible (refine Since.setCell ?_ ?_ _); rotate_left; focus (first | (simp; done) | (simp; omega) | omega)) | (with_reducible (refine Since.trans ?_ (by with_reducible assumption))))); done)))) (first | (go_at_call 49; refine (HN.out _ _ _).mono ?_; rintro e w1 ⟨rfl, hS⟩; have hZ := hS.below.size; (try simp at hZ)) | (go_at_call 48; refine (HI.out _).mono ?_; rintro e w1 ⟨rfl, hS⟩; have hZ := hS.below.size; (try simp at hZ))); all_goals (rename_i hHeld; have hR1 : Since wr1 _ := hHeld; obtain ⟨hcR1, hfR1, hzR1, hbR1⟩ := hHeld; subst hwr1))
        all_goals go_wp2
        refine ⟨⟨j + 1, by omega, by rw [hA'.out], by simp, by (repeat (first | with_reducible (exact Since.refl _) | with_reducible assumption | with_reducible (refine Since.drew ?_) | with_reducible (refine Since.drewN ?_ _) | with_reducible (refine Since.alloc ?_ _) | (with_reducible (refine Since.setCell ?_ ?_ _); rotate_left; focus (first | (simp; done) | (simp; omega) | omega)) | (with_reducible (refine Since.trans ?_ (by with_reducible assumption)))))⟩, by simp [intOf]; omega⟩
      · obtain rfl : j = n := by omega
        clear h
        go_wp2
        go_ret2
        exact ⟨rfl, hSr⟩

set_option maxHeartbeats 8000000 in
theorem rf_area (A : Option Addr) (n c : Nat) (X Y : Nat → Int) (w : World) (h : RdP w w.heap.size A n X Y) (hg : allG X Y n = true) (hn4 : n ≤ 4096) :
    Calls Try.prog 30 #[.slice A n c] w fun e w' => e = .returned (.int .i64 (areaTo X Y n n)) ∧ Since w w' := by
  have hgood := allG_iff.1 hg
  have hnear : ∀ j, j < n → Near (X j) ∧ Near (Y j) := fun j hj => by
    obtain ⟨n1, n2, _, _⟩ := good_near (hgood j hj); exact ⟨n1, n2⟩
  have HR := Lib.hid (fun k hk => areaTo_range hnear k hk)
  have hn' : (n : Int) ≤ 4096 := by omega
  clear hg
  go_enter Try.func30, Try.ntmps30
  go_wp2
  go_loopw [3, 7] (fun s y wr => ∃ j : Nat, j ≤ n ∧ s = .int .i64 (areaTo X Y n j) ∧ y = .int .i64 (j : Int) ∧ Since w wr) (fun _ y _ => n - (intOf y).toNat)
  case atStart => exact ⟨0, by omega, rfl, rfl, Since.refl _⟩
  case round =>
    obtain ⟨j, hj, rfl, rfl, hSr⟩ := hrel
    by_cases hjn : j < n
    · have hjn' : (j : Int) < n := by omega
      obtain ⟨b, o, rfl, hb, hc⟩ := h (by omega)
      have hblt : b < wr.heap.size := by have := hSr.below.size; omega
      have c1 : wr.cell? ⟨b, o + j * 2, none⟩ = some (.int .i64 (X j)) := (hSr.1 _ _ hb).trans (hc j hjn).1
      have c2 : wr.cell? ⟨b, o + j * 2 + 1, none⟩ = some (.int .i64 (Y j)) := (hSr.1 _ _ hb).trans (hc j hjn).2
      have hi : (j + 1) % n < n := Nat.mod_lt _ (by omega)
      have hmod : ((j : Int) + 1) % (n : Int) = (((j + 1) % n : Nat) : Int) := by rw [Int.natCast_emod, Int.natCast_add]; rfl
      have hmodt : ((j : Int) + 1).tmod (n : Int) = (((j + 1) % n : Nat) : Int) := by rw [Int.tmod_eq_emod_of_nonneg (by omega)]; exact hmod
      have hr1 := HR.out j (by omega)
      obtain ⟨n1, n2⟩ := hnear j hjn
      obtain ⟨n3, n4⟩ := hnear _ hi
      have hA : areaTo X Y n (j + 1) = areaTo X Y n j + crossI (X j) (Y j) (X ((j + 1) % n)) (Y ((j + 1) % n)) := rfl
      have hcr := cross_range n1 n2 n3 n4
      have hcs := fun w => rf_cross (X j) (Y j) (X ((j + 1) % n)) (Y ((j + 1) % n)) n1 n2 n3 n4 w
      have e1 : wr.cell? ⟨b, o + (j + 1) % n * 2, none⟩ = some (.int .i64 (X ((j + 1) % n))) := (hSr.1 _ _ hb).trans (hc _ hi).1
      have e2 : wr.cell? ⟨b, o + (j + 1) % n * 2 + 1, none⟩ = some (.int .i64 (Y ((j + 1) % n))) := (hSr.1 _ _ hb).trans (hc _ hi).2
      have hA' := Lib.hid hA
      generalize crossI (X j) (Y j) (X ((j + 1) % n)) (Y ((j + 1) % n)) = N at *
      generalize (j + 1) % n = i at *
      generalize X j = x at *
      generalize Y j = y at *
      generalize X i = u at *
      generalize Y i = v at *
      generalize areaTo X Y n j = S at *
      have hi' : (i : Int) < n := by omega
      have hi0 : (0 : Int) ≤ i := by omega
      have hj1 : IntKind.i64.wrap ((j : Int) + 1) = (j : Int) + 1 := IntWalk.i64_in _ (by omega)
      have hj2 : IntKind.i64.wrap (i : Int) = (i : Int) := IntWalk.i64_in _ (by omega)
      have hwN : IntKind.i64.wrap (S + N) = S + N := IntWalk.i64_in _ (by omega)
      have hn0 : ¬ n = 0 := by omega
      have hn0' : ((n : Int) == 0) = false := by simpa using hn0
      unfold Pt at hcs
      have HC := Lib.hid hcs
      clear hc h hcs hA HR hr1 hcr n1 n2 n3 n4 hgood hnear
      go_wp2_with fail
      (refine wp_named fun wr1 hwr1 => ?_; go_region_held3 (fun w' => (∀ b o, b < wr1.heap.size → w'.cell? ⟨b, o, none⟩ = wr1.cell? ⟨b, o, none⟩) ∧ (∀ b o, b < wr1.heap.size → w'.frozen? ⟨b, o, none⟩ = wr1.frozen? ⟨b, o, none⟩) ∧ (∀ k, k < wr1.heap.size → k < w'.heap.size) ∧ Below wr1.heap.size wr1 w') ((subst hwr1; (repeat (with_reducible (refine since_put ?_ ?_ _); rotate_left; focus (first | (simp; done) | (simp; omega) | omega))); first | assumption | (refine since_step (by assumption) ?_; first | assumption | ((repeat (first | with_reducible (exact Since.refl _) | with_reducible assumption | with_reducible (refine Since.drew ?_) | with_reducible (refine Since.drewN ?_ _) | with_reducible (refine Since.alloc ?_ _) | (with_reducible (refine Since.setCell ?_ ?_ _); rotate_left; focus (first | (simp; done) | (simp; omega) | omega)))); done)) | (refine since_step (Since.refl _) ?_; first | assumption | ((repeat (first | with_reducible (exact Since.refl _) | with_reducible assumption | with_reducible (refine Since.drew ?_) | with_reducible (refine Since.drewN ?_ _) | with_reducible (refine Since.alloc ?_ _) | (with_reducible (refine Since.setCell ?_ ?_ _); rotate_left; focus (first | (simp; done) | (simp; omega) | omega)) | (with_reducible (refine Since.trans ?_ (by with_reducible assumption))))); done)))) ((go_at_call 21; refine (HC.out _).mono ?_; rintro e w1 ⟨rfl, hS⟩; have hZ := hS.below.size; (try simp at hZ))); all_goals (rename_i hHeld; have hR1 : Since wr1 _ := hHeld; obtain ⟨hcR1, hfR1, hzR1, hbR1⟩ := hHeld; subst hwr1))
      all_goals go_wp2
      all_goals refine ⟨⟨j + 1, by omega, by rw [hA'.out], by simp, by (repeat (first | with_reducible (exact Since.refl _) | with_reducible assumption | with_reducible (refine Since.drew ?_) | with_reducible (refine Since.drewN ?_ _) | with_reducible (refine Since.alloc ?_ _) | (with_reducible (refine Since.setCell ?_ ?_ _); rotate_left; focus (first | (simp; done) | (simp; omega) | omega)) | (with_reducible (refine Since.trans ?_ (by with_reducible assumption)))))⟩, by simp [intOf]; omega⟩
    · obtain rfl : j = n := by omega
      clear h
      go_wp2
      go_ret
      exact ⟨rfl, hSr⟩
set_option maxHeartbeats 8000000 in
theorem rf_same (A B : Option Addr) (n c d : Nat) (X Y : Nat → Int) (w : World) (h1 : RdP w w.heap.size A n X Y) (h2 : RdP w w.heap.size B n X Y) (hn : n ≤ maxLen) :
    Calls Try.prog 29 #[.slice A n c, .slice B n d] w fun e w' => e = .returned (.bool true) ∧ Since w w' := by
  have hn' : (n : Int) ≤ 9223372036854775807 := by simp only [maxLen] at hn; omega
  go_enter Try.func29, Try.ntmps29
  go_wp2
  go_loopw [13] (fun y wr => ∃ j : Nat, j ≤ n ∧ y = .int .i64 (j : Int) ∧ Since w wr) (fun y _ => n - (intOf y).toNat)
  case atStart => exact ⟨0, by omega, rfl, Since.refl _⟩
  case round =>
    obtain ⟨j, hj, rfl, hSr⟩ := hrel
    by_cases hjn : j < n
    · have hjn' : (j : Int) < n := by omega
      obtain ⟨b, o, rfl, hb, hc⟩ := h1 (by omega)
      obtain ⟨b', o', rfl, hb', hc'⟩ := h2 (by omega)
      have c1 : wr.cell? ⟨b, o + j * 2, none⟩ = some (.int .i64 (X j)) := (hSr.1 _ _ hb).trans (hc j hjn).1
      have c2 : wr.cell? ⟨b, o + j * 2 + 1, none⟩ = some (.int .i64 (Y j)) := (hSr.1 _ _ hb).trans (hc j hjn).2
      have e1 : wr.cell? ⟨b', o' + j * 2, none⟩ = some (.int .i64 (X j)) := (hSr.1 _ _ hb').trans (hc' j hjn).1
      have e2 : wr.cell? ⟨b', o' + j * 2 + 1, none⟩ = some (.int .i64 (Y j)) := (hSr.1 _ _ hb').trans (hc' j hjn).2
      have hj0 : (0 : Int) ≤ j := by omega
      generalize X j = x at *
      generalize Y j = y at *
      clear hc hc' h1 h2
      go_wp2_with fail
      go_quiet (fail)
      go_wp2
      refine ⟨⟨j + 1, by omega, by simp, by (repeat (first | with_reducible (exact Since.refl _) | with_reducible assumption | with_reducible (refine Since.drew ?_) | with_reducible (refine Since.drewN ?_ _) | with_reducible (refine Since.alloc ?_ _) | (with_reducible (refine Since.setCell ?_ ?_ _); rotate_left; focus (first | (simp; done) | (simp; omega) | omega)) | (with_reducible (refine Since.trans ?_ (by with_reducible assumption)))))⟩, by simp [intOf]; omega⟩
    · obtain rfl : j = n := by omega
      clear h1 h2
      go_wp2
      go_ret
      exact ⟨rfl, hSr⟩
end Go.Proofs.Ytbbbojhncfdbdaa
