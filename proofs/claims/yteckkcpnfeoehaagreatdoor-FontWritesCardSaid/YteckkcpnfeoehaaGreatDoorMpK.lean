/-
  Texts of this seat, put together: each with its own head.
-/
import Derived.Test.YteckkcpnfeoehaaGreatDoorMpJ
import Derived.Laws.StructEq

/-
  Layer 6: 'Same' of metrics; the document's examples.
-/
namespace Go.Proofs.YteckkcpnfeoehaaGreatDoor
set_option maxRecDepth 100000
open Go.RowKit
set_option linter.unusedVariables false

theorem eq_mt (w : World) (x y u v : Int) : (Op.equalIn 10000 89 (.agg #[.int .i64 x, .int .i64 y]) (.agg #[.int .i64 u, .int .i64 v])).run Tryz.prog w = .ok (x == u && y == v) w := by
  rw [run_equalIn_struct w 9999 89 _ _ (by kernel_rfl) (by kernel_rfl)]
  have heq : ∀ (d : Nat) (a b : Int) (w : World), (Op.equalIn (d + 1) 3 (.int .i64 a) (.int .i64 b)).run Tryz.prog w = .ok (a == b) w := fun d a b w => run_equalIn_int w d _ _ _ a b Tryz.underlying3
  have hc : Tryz.prog.cellsOf 3 = 1 := by kernel_rfl
  simp only [Program.fieldsOf, Tryz.underlying89]
  by_cases h0 : x = u
  · by_cases h1 : y = v
    · simp [go_sem, h0, h1]
    · simp [go_sem, h0, h1]
  · simp [go_sem, h0]
attribute [go_sem] eq_mt
set_option maxHeartbeats 8000000 in
theorem ref_msame (A B : Option Addr) (n c d : Nat) (X Y : Nat → Int) (w : World) (h1 : Rd w w.heap.size A (n * 2) (MtV X Y)) (h2 : Rd w w.heap.size B (n * 2) (MtV X Y)) (hn : n ≤ maxLen) :
    Calls Tryz.prog 39 #[.slice A n c, .slice B n d] w fun e w' => e = .returned (.bool true) ∧ Since w w' := by
  have hn' : (n : Int) ≤ 9223372036854775807 := by simp only [maxLen] at hn; omega
  go_enter Tryz.func39, Tryz.ntmps39
  go_wp2
  go_loopw [13] (fun y wr => ∃ j : Nat, j ≤ n ∧ y = .int .i64 (j : Int) ∧ Since w wr) (fun y _ => n - (intOf y).toNat)
  case atStart => exact ⟨0, by omega, rfl, Since.refl _⟩
  case round =>
    obtain ⟨j, hj, rfl, hSr⟩ := hrel
    by_cases hjn : j < n
    · have hjn' : (j : Int) < n := by omega
      obtain ⟨b, o, rfl, hb, hc⟩ := h1 (by omega)
      obtain ⟨b', o', rfl, hb', hc'⟩ := h2 (by omega)
      have c1 : wr.cell? ⟨b, o + j * 2, none⟩ = some (.int .i64 (X j)) := (hSr.1 _ _ hb).trans ((hc (j * 2) (by omega)).trans (by rw [mtv_even]))
      have c2 : wr.cell? ⟨b, o + j * 2 + 1, none⟩ = some (.int .i64 (Y j)) := (hSr.1 _ _ hb).trans ((hc (j * 2 + 1) (by omega)).trans (by rw [mtv_odd]))
      have e1 : wr.cell? ⟨b', o' + j * 2, none⟩ = some (.int .i64 (X j)) := (hSr.1 _ _ hb').trans ((hc' (j * 2) (by omega)).trans (by rw [mtv_even]))
      have e2 : wr.cell? ⟨b', o' + j * 2 + 1, none⟩ = some (.int .i64 (Y j)) := (hSr.1 _ _ hb').trans ((hc' (j * 2 + 1) (by omega)).trans (by rw [mtv_odd]))
      have hj0 : (0 : Int) ≤ j := by omega
      generalize X j = x at *
      generalize Y j = y at *
      clear hc hc' h1 h2
      go_wp2_with fail
      go_quiet (fail)
      go_wp2
      refine ⟨⟨j + 1, by omega, by simp, by (repeat (first | with_reducible (exact Since.refl _) | with_reducible assumption | with_reducible (refine Since.drew ?_) | with_reducible (refine Since.drewN ?_ _) | with_reducible (refine Since.alloc ?_ _) | (with_reducible (refine Since.setCell ?_ ?_ _); rotate_left; focus (first | (simp; done) | (simp; omega) | omega)) | (with_reducible (refine Since.trans ?_ (by with_reducible assumption)))))⟩, by simp [intOf]; omega⟩
    · obtain rfl : j = n := by omega
      clear h1 h2
      go_wp2
      go_ret
      exact ⟨rfl, hSr⟩

end Go.Proofs.YteckkcpnfeoehaaGreatDoor

/-
  Layer 6: the laws LocaReads, LocaMetrics, LocaWrites, LocaLong, walked.
-/
namespace Go.Proofs.YteckkcpnfeoehaaGreatDoor
set_option maxRecDepth 100000
open Go.RowKit
set_option linter.unusedVariables false

end Go.Proofs.YteckkcpnfeoehaaGreatDoor

/-
  Layer 6: the laws LocaLong, LocaBack, walked.
-/
namespace Go.Proofs.YteckkcpnfeoehaaGreatDoor
set_option maxRecDepth 100000
open Go.RowKit
set_option linter.unusedVariables false

/-- What was written, read. -/
def catB (n : Nat) (f o : Nat → Int) (j : Nat) : Int := if j < n then f j else o (j - n)
theorem byte_rangeL (n : Int) (m j : Nat) : 0 ≤ byteOf n m j ∧ byteOf n m j ≤ 255 := by
  unfold byteOf
  have h1 := Int.emod_nonneg (n / 2 ^ (8 * (m - 1 - j))) (show (256 : Int) ≠ 0 by decide)
  have h2 := Int.emod_lt_of_pos (n / 2 ^ (8 * (m - 1 - j))) (show (0 : Int) < 256 by decide)
  omega
theorem wr_value {l : Bool} {f o : Nat → Int} {n i : Nat} (h : wrE l f n = 0) (hi : i < n) : lcV (catB (wide4 l * n) (wrF l f) o) l i = f i := by
  obtain ⟨h1, h2⟩ := wr_ok h
  have h0 := ok_nonneg h1 hi
  have h3 := allB_iff.1 h2 i hi
  unfold fitB at h3
  cases l
  · simp only [Bool.false_eq_true, if_false, Bool.and_eq_true, decide_eq_true_eq] at h3
    have e : ∀ t, t < 2 → catB (2 * n) (wrF false f) o (2 * i + t) = byteOf (f i / 2) 2 t := fun t ht => by
      unfold catB wrF
      rw [if_pos (by omega)]
      show byteOf (f ((2 * i + t) / 2) / 2) 2 ((2 * i + t) % 2) = _
      rw [show (2 * i + t) / 2 = i by omega, show (2 * i + t) % 2 = t by omega]
    show 2 * numAt (catB (2 * n) (wrF false f) o) (2 * i) 2 = f i
    simp only [numAt, e 0 (by omega), e 1 (by omega), byteOf, Nat.reduceSub, Nat.reduceMul, Int.reducePow]
    omega
  · simp only [if_true, decide_eq_true_eq] at h3
    have e : ∀ t, t < 4 → catB (4 * n) (wrF true f) o (4 * i + t) = byteOf (f i / 1) 4 t := fun t ht => by
      unfold catB wrF
      rw [if_pos (by omega)]
      show byteOf (f ((4 * i + t) / 4) / 1) 4 ((4 * i + t) % 4) = _
      rw [show (4 * i + t) / 4 = i by omega, show (4 * i + t) % 4 = t by omega]
    show 1 * numAt (catB (4 * n) (wrF true f) o) (4 * i) 4 = f i
    simp only [numAt, e 0 (by omega), e 1 (by omega), e 2 (by omega), e 3 (by omega), byteOf, Nat.reduceSub, Nat.reduceMul, Int.reducePow]
    omega
theorem back_rd {l : Bool} {f o : Nat → Int} {n m : Nat} (h : wrE l f n = 0) (hn : 1 ≤ n ∧ n ≤ 1025) : rdE (catB (wide4 l * n) (wrF l f) o) (wide4 l * n + m) l ((n : Int) - 1) = 0 ∧ rdN (catB (wide4 l * n) (wrF l f) o) (wide4 l * n + m) l ((n : Int) - 1) = n := by
  have e1 : rdE (catB (wide4 l * n) (wrF l f) o) (wide4 l * n + m) l ((n : Int) - 1) = 0 := by
    unfold rdE
    rw [if_neg (by omega), if_neg (by rw [show (n : Int) - 1 + 1 = n by omega]; simp only [Int.natCast_add, Int.natCast_mul, Int.not_lt]; exact Int.le_add_of_nonneg_right (by omega)), show ((n : Int) - 1).toNat + 1 = n by omega]
    have hA : allB (ascB (lcV (catB (wide4 l * n) (wrF l f) o) l)) n = true := by
      rw [allB_congr (q := ascB f) (fun j hj => ?_)]
      · exact ok_asc (wr_ok h).1
      · rcases j with _ | j
        · rw [asc_zero, asc_zero]
        · rw [asc_next, asc_next, wr_value h hj, wr_value h (by omega)]
    rw [hA]; rfl
  refine ⟨e1, ?_⟩
  unfold rdN
  rw [if_pos e1]
  omega
end Go.Proofs.YteckkcpnfeoehaaGreatDoor

/-
  Layer 6: 'fits', 'PutMetrics' of the program, walked.
-/
namespace Go.Proofs.YteckkcpnfeoehaaGreatDoor
set_option maxRecDepth 100000
open Go.RowKit
set_option linter.unusedVariables false

def fitXY (x y : Int) : Bool := decide (0 ≤ x) && (decide (x ≤ 65535) && (decide (-32768 ≤ y) && decide (y ≤ 32767)))
def fitM (X Y : Nat → Int) (i : Nat) : Bool := fitXY (X i) (Y i)
theorem fitM_iff {X Y : Nat → Int} {i : Nat} : fitM X Y i = true ↔ 0 ≤ X i ∧ X i ≤ 65535 ∧ -32768 ≤ Y i ∧ Y i ≤ 32767 := by unfold fitM fitXY; simp
def samA (X : Nat → Int) (C i : Nat) : Bool := decide (i < C) || (X i == X (C - 1))
def pmE (X Y : Nat → Int) (n : Nat) (c : Int) : Int := if n < 1 ∨ 1024 < n ∨ c < 1 ∨ (n : Int) < c then 2 else if allB (fitM X Y) n then (if allB (samA X c.toNat) n then 0 else 4) else 6
def pmP (C j : Nat) : Nat := if j ≤ C then 4 * j else 4 * C + 2 * (j - C)
def pmF (X Y : Nat → Int) (C q : Nat) : Int := if q < 4 * C then (if q % 4 < 2 then byteOf (X (q / 4)) 2 (q % 4) else byteOf (Y (q / 4)) 2 (q % 4 - 2)) else byteOf (Y (C + (q - 4 * C) / 2)) 2 ((q - 4 * C) % 2)
def pmN (X Y : Nat → Int) (n : Nat) (c : Int) : Nat := if pmE X Y n c = 0 then pmP c.toNat n else 0
def PmPost (X Y : Nat → Int) (n : Nat) (c : Int) (w : World) (e : Ending) (w' : World) : Prop := ∃ A' d, e = .returned (.tuple #[.slice A' (pmN X Y n c) d, .int .i64 (pmE X Y n c)]) ∧ Rd w' w'.heap.size A' (pmN X Y n c) (U8 (pmF X Y c.toNat)) ∧ Since w w'
theorem pm_post {X Y : Nat → Int} {n M d : Nat} {c E : Int} {A' : Option Addr} {w w' : World} (hE : pmE X Y n c = E) (hM : M = if E = 0 then pmP c.toNat n else 0) (h : Rd w' w'.heap.size A' M (U8 (pmF X Y c.toNat))) (hS : Since w w') : PmPost X Y n c w (.returned (.tuple #[.slice A' M d, .int .i64 E])) w' := by
  subst hE
  have e : pmN X Y n c = M := hM.symm
  unfold PmPost
  rw [e]
  exact ⟨A', d, rfl, h, hS⟩
theorem pm_bad {n : Nat} {c : Int} (h : n < 1 ∨ 1024 < n ∨ c < 1 ∨ (n : Int) < c) : ((n : Int) < 1) ∨ ((1 : Int) ≤ n ∧ (1024 : Int) < n) ∨ ((1 : Int) ≤ n ∧ (n : Int) ≤ 1024 ∧ c < 1) ∨ ((1 : Int) ≤ n ∧ (n : Int) ≤ 1024 ∧ 1 ≤ c ∧ (n : Int) < c) := by omega

set_option maxHeartbeats 4000000 in
theorem lo_fits (x y : Int) (w : World) : Calls Tryz.prog 107 #[.agg #[.int .i64 x, .int .i64 y]] w fun e w' => e = .returned (.bool (fitXY x y)) ∧ Since w w' := by
  by_cases h1 : 0 ≤ x
  · by_cases h2 : x ≤ 65535
    · by_cases h3 : -32768 ≤ y
      · have E := Lib.hid (show fitXY x y = decide (y ≤ 32767) by unfold fitXY; rw [decide_eq_true h1, decide_eq_true h2, decide_eq_true h3]; simp)
        go_enter Tryz.func107, Tryz.ntmps107
        go_wp2
        go_ret
        exact ⟨by rw [E.out]; rfl, by (repeat (first | with_reducible (exact Since.refl _) | with_reducible assumption | with_reducible (refine Since.drew ?_) | with_reducible (refine Since.drewN ?_ _) | with_reducible (refine Since.alloc ?_ _) | (with_reducible (refine Since.setCell ?_ ?_ _); rotate_left; focus (first | (simp; done) | (simp; omega) | omega)) | (with_reducible (refine Since.trans ?_ (by with_reducible assumption)))))⟩
      · have E := Lib.hid (show fitXY x y = false by unfold fitXY; rw [decide_eq_false h3]; simp)
        go_enter Tryz.func107, Tryz.ntmps107
        go_wp2
        go_ret
        exact ⟨by rw [E.out]; rfl, by (repeat (first | with_reducible (exact Since.refl _) | with_reducible assumption | with_reducible (refine Since.drew ?_) | with_reducible (refine Since.drewN ?_ _) | with_reducible (refine Since.alloc ?_ _) | (with_reducible (refine Since.setCell ?_ ?_ _); rotate_left; focus (first | (simp; done) | (simp; omega) | omega)) | (with_reducible (refine Since.trans ?_ (by with_reducible assumption)))))⟩
    · have E := Lib.hid (show fitXY x y = false by unfold fitXY; rw [decide_eq_false h2]; simp)
      go_enter Tryz.func107, Tryz.ntmps107
      go_wp2
      go_ret
      exact ⟨by rw [E.out]; rfl, by (repeat (first | with_reducible (exact Since.refl _) | with_reducible assumption | with_reducible (refine Since.drew ?_) | with_reducible (refine Since.drewN ?_ _) | with_reducible (refine Since.alloc ?_ _) | (with_reducible (refine Since.setCell ?_ ?_ _); rotate_left; focus (first | (simp; done) | (simp; omega) | omega)) | (with_reducible (refine Since.trans ?_ (by with_reducible assumption)))))⟩
  · have E := Lib.hid (show fitXY x y = false by unfold fitXY; rw [decide_eq_false h1]; simp)
    go_enter Tryz.func107, Tryz.ntmps107
    go_wp2
    go_ret
    exact ⟨by rw [E.out]; rfl, by (repeat (first | with_reducible (exact Since.refl _) | with_reducible assumption | with_reducible (refine Since.drew ?_) | with_reducible (refine Since.drewN ?_ _) | with_reducible (refine Since.alloc ?_ _) | (with_reducible (refine Since.setCell ?_ ?_ _); rotate_left; focus (first | (simp; done) | (simp; omega) | omega)) | (with_reducible (refine Since.trans ?_ (by with_reducible assumption)))))⟩
set_option maxHeartbeats 4000000 in
theorem lo_pm1 (i : Nat) (q : Nat) (A : Option Addr) (n c : Nat) (X Y : Nat → Int) (w : World) (hi : i < n) (hn : n ≤ maxLen) (hq : w.cell? ⟨q, 0, none⟩ = some (.slice A n c)) (h : Rd w w.heap.size A (n * 2) (MtV X Y)) :
    Calls Tryz.prog 106 #[.int .i64 i, .pointer (some ⟨q, 0, none⟩)] w fun e w' => e = .returned (.bool (fitM X Y i)) ∧ Since w w' := by
  have hn' : (n : Int) ≤ 9223372036854775807 := by simp only [maxLen] at hn; omega
  obtain ⟨b, o, rfl, hb, hc⟩ := h (by omega)
  have c1 : w.cell? ⟨b, o + i * 2, none⟩ = some (.int .i64 (X i)) := (hc (i * 2) (by omega)).trans (by rw [mtv_even])
  have c2 : w.cell? ⟨b, o + i * 2 + 1, none⟩ = some (.int .i64 (Y i)) := (hc (i * 2 + 1) (by omega)).trans (by rw [mtv_odd])
  have hF := lo_fits (X i) (Y i) w
  have e : fitM X Y i = fitXY (X i) (Y i) := rfl
  rw [← e] at hF
  have i1 : (i : Int) < n := by omega
  generalize fitM X Y i = B at *
  generalize X i = x at *
  generalize Y i = y at *
  clear hc h e
  go_enter Tryz.func106, Tryz.ntmps106
  go_wp2_with (go_at_call 107; (with_reducible refine hF.mono ?_); rintro e w1 ⟨rfl, hS⟩)
  go_ret
  exact ⟨rfl, hS⟩
set_option maxHeartbeats 4000000 in
theorem lo_pm2 (i : Nat) (r q : Nat) (A : Option Addr) (n c C : Nat) (X Y : Nat → Int) (w : World) (hi : i < n) (hn : n ≤ maxLen) (hC : 1 ≤ C ∧ C ≤ n) (hr : w.cell? ⟨r, 0, none⟩ = some (.int .i64 C)) (hq : w.cell? ⟨q, 0, none⟩ = some (.slice A n c)) (h : Rd w w.heap.size A (n * 2) (MtV X Y)) :
    Calls Tryz.prog 108 #[.int .i64 i, .pointer (some ⟨r, 0, none⟩), .pointer (some ⟨q, 0, none⟩)] w fun e w' => e = .returned (.bool (samA X C i)) ∧ Since w w' := by
  have hn' : (n : Int) ≤ 9223372036854775807 := by simp only [maxLen] at hn; omega
  obtain ⟨b, o, rfl, hb, hc⟩ := h (by omega)
  by_cases hiC : i < C
  · have E := Lib.hid (show samA X C i = true by unfold samA; rw [decide_eq_true hiC]; rfl)
    have d0 : decide ((i : Int) < C) = true := by simp; omega
    have d1 : decide (i < C) = true := by simpa using hiC
    clear hc h
    go_enter Tryz.func108, Tryz.ntmps108
    go_wp2_with fail
    go_quiet (fail)
    go_wp2
    go_ret
    exact ⟨by rw [E.out]; rfl, by (repeat (first | with_reducible (exact Since.refl _) | with_reducible assumption | with_reducible (refine Since.drew ?_) | with_reducible (refine Since.drewN ?_ _) | with_reducible (refine Since.alloc ?_ _) | (with_reducible (refine Since.setCell ?_ ?_ _); rotate_left; focus (first | (simp; done) | (simp; omega) | omega)) | (with_reducible (refine Since.trans ?_ (by with_reducible assumption)))))⟩
  · have E := Lib.hid (show samA X C i = (X i == X (C - 1)) by unfold samA; rw [decide_eq_false hiC]; rfl)
    have d0 : decide ((i : Int) < C) = false := by simp; omega
    have d1 : decide (i < C) = false := by simpa using hiC
    have c1 : w.cell? ⟨b, o + i * 2, none⟩ = some (.int .i64 (X i)) := (hc (i * 2) (by omega)).trans (by rw [mtv_even])
    have c2 : w.cell? ⟨b, o + (C - 1) * 2, none⟩ = some (.int .i64 (X (C - 1))) := (hc ((C - 1) * 2) (by omega)).trans (by rw [mtv_even])
    have e2 : IntKind.i64.wrap ((C : Int) - 1) = ((C - 1 : Nat) : Int) := by rw [IntWalk.i64_in _ (by omega)]; omega
    have i1 : (i : Int) < n := by omega
    have i2 : ((C - 1 : Nat) : Int) < n := by omega
    generalize X i = x at *
    generalize X (C - 1) = y at *
    obtain ⟨D, hD⟩ : ∃ D, C - 1 = D := ⟨_, rfl⟩
    rw [hD] at c2 e2 i2
    have i3 : (0 : Int) ≤ D := by omega
    have i4 : (0 : Int) ≤ i := by omega
    clear hc h hD
    go_enter Tryz.func108, Tryz.ntmps108
    go_wp2_with fail
    go_quiet (fail)
    go_wp2
    go_ret
    exact ⟨by rw [E.out]; rfl, by (repeat (first | with_reducible (exact Since.refl _) | with_reducible assumption | with_reducible (refine Since.drew ?_) | with_reducible (refine Since.drewN ?_ _) | with_reducible (refine Since.alloc ?_ _) | (with_reducible (refine Since.setCell ?_ ?_ _); rotate_left; focus (first | (simp; done) | (simp; omega) | omega)) | (with_reducible (refine Since.trans ?_ (by with_reducible assumption)))))⟩
theorem enters34 : ∀ args w, (callFunc 106 args).run Tryz.prog w = .ok (.enter 106 args) w := enters_of Tryz.func106 (by kernel_rfl) rfl
theorem enters36 : ∀ args w, (callFunc 108 args).run Tryz.prog w = .ok (.enter 108 args) w := enters_of Tryz.func108 (by kernel_rfl) rfl
theorem pm_next1 (X Y : Nat → Int) (C j : Nat) (h : j < C) : tab (pmP C j) (U8 (pmF X Y C)) ++ tab 2 (U8 (byteOf (X j) 2)) ++ tab 2 (U8 (byteOf (Y j) 2)) = tab (pmP C (j + 1)) (U8 (pmF X Y C)) := by
  have e0 : pmP C j = 4 * j := by unfold pmP; rw [if_pos (by omega)]
  have e1 : pmP C (j + 1) = 4 * j + 2 + 2 := by unfold pmP; rw [if_pos (by omega)]; omega
  rw [e0, e1, tab_append, tab_append]
  refine tab_congr fun t ht => ?_
  by_cases h1 : t < 4 * j + 2
  · rw [if_pos h1]
    by_cases h2 : t < 4 * j
    · rw [if_pos h2]
    · rw [if_neg h2]
      simp only [U8, IntRow, pmF]
      rw [if_pos (by omega), if_pos (by omega), show t / 4 = j by omega, show t % 4 = t - 4 * j by omega]
  · rw [if_neg h1]
    simp only [U8, IntRow, pmF]
    rw [if_pos (by omega), if_neg (by omega), show t / 4 = j by omega, show t % 4 - 2 = t - (4 * j + 2) by omega]
theorem pm_next2 (X Y : Nat → Int) (C j : Nat) (h : C ≤ j) : tab (pmP C j) (U8 (pmF X Y C)) ++ tab 2 (U8 (byteOf (Y j) 2)) = tab (pmP C (j + 1)) (U8 (pmF X Y C)) := by
  have e0 : pmP C j = 4 * C + 2 * (j - C) := by unfold pmP; split <;> omega
  have e1 : pmP C (j + 1) = 4 * C + 2 * (j - C) + 2 := by unfold pmP; rw [if_neg (by omega)]; omega
  rw [e0, e1, tab_append]
  refine tab_congr fun t ht => ?_
  by_cases h2 : t < 4 * C + 2 * (j - C)
  · rw [if_pos h2]
  · rw [if_neg h2]
    simp only [U8, IntRow, pmF]
    rw [if_neg (by omega), show C + (t - 4 * C) / 2 = j by omega, show (t - 4 * C) % 2 = t - (4 * C + 2 * (j - C)) by omega]
theorem pmP_le (C j : Nat) : pmP C j ≤ 4 * j := by unfold pmP; split <;> omega

theorem grown_cell {w w' : World} {row : Option Nat} (hg : w.grownBy w' row) {b : Nat} (hb : b < w.heap.size) (hne : ¬ row = some b) (o : Nat) : w'.cell? ⟨b, o, none⟩ = w.cell? ⟨b, o, none⟩ := by
  have h := hg.block b hb (fun e => hne e.symm)
  simp only [World.cell?, h]
theorem own_lt {w : World} {base n k : Nat} {e : TypeId} {v : Value} {xs : List Value} (h : w.ownsRow base e k v n xs) {g : Nat} (hg : v.ownBlock = some g) : g < w.heap.size := by
  rcases h.2 with ⟨rfl, _⟩ | ⟨g', c', cur, rfl, _, hh, _⟩
  · cases hg
  · simp only [Value.ownBlock, Option.some.injEq] at hg
    subst hg
    rcases Nat.lt_or_ge g' w.heap.size with hlt | hge
    · exact hlt
    · rw [Array.getElem?_eq_none hge] at hh; cases hh
theorem own_shape {w : World} {base n : Nat} {e : TypeId} {v : Value} {xs : List Value} (h : w.ownsRow base e 1 v n xs) : ∃ A c, v = .slice A n c ∧ n ≤ c ∧ True ∧ (∀ k, v.ownBlock = some k → base ≤ k) := by
  rcases h.2 with ⟨rfl, hn⟩ | ⟨g, cap, cur, rfl, hb, hh, hnc, _⟩
  · subst hn; exact ⟨none, 0, rfl, Nat.le_refl _, trivial, fun k hk => by cases hk⟩
  · exact ⟨_, cap, rfl, hnc, trivial, fun k hk => by simp [Value.ownBlock] at hk; omega⟩
theorem pm_start (w : World) (B C : Nat) (V : Nat → Value) : w.ownsRow B 5 1 (.slice none 0 0) (pmP C 0) (tab (pmP C 0) V) := by
  have hp0 : pmP C 0 = 0 := by unfold pmP; simp
  rw [hp0]
  exact World.ownsRow_nil _ _ _ _
theorem pm_yes {X Y : Nat → Int} {n : Nat} {c : Int} (h : ¬ (n < 1 ∨ 1024 < n ∨ c < 1 ∨ (n : Int) < c)) : pmE X Y n c = if allB (fitM X Y) n then (if allB (samA X c.toNat) n then 0 else 4) else 6 := by unfold pmE; rw [if_neg h]
set_option maxRecDepth 100000 in
set_option maxHeartbeats 8000000 in
theorem lo_putmetrics (A : Option Addr) (n d : Nat) (X Y : Nat → Int) (c : Int) (w : World) (h : Rd w w.heap.size A (n * 2) (MtV X Y)) (hXY : ∀ j, j < n → In64 (X j) ∧ In64 (Y j)) (hn : n ≤ maxLen) :
    Calls Tryz.prog 60 #[.slice A n d, .int .i64 c] w (PmPost X Y n c w) := by
  obtain ⟨i0, hi0, hz0, hz1, hz2⟩ := info_parts Tryz.info_u8
  have hmf : ∀ (fn : Fn) (first cap : Array Value) (w : World), (Instr.makeFunc fn first cap).run Tryz.prog w = .ok (.func fn first cap) w := fun _ _ _ _ => rfl
  have hn' : (n : Int) ≤ 9223372036854775807 := by simp only [maxLen] at hn; omega
  by_cases hbad : n < 1 ∨ 1024 < n ∨ c < 1 ∨ (n : Int) < c
  · have E := Lib.hid (show pmE X Y n c = 2 by unfold pmE; rw [if_pos hbad])
    have hb := pm_bad hbad
    clear hbad h
    rcases hb with h1 | ⟨h1, h2⟩ | ⟨h1, h2, h3⟩ | ⟨h1, h2, h3, h4⟩
    all_goals
      go_enter Tryz.func60, Tryz.ntmps60
      go_wp2
      go_ret2
      exact pm_post E.out rfl Rd.zero (by (repeat (first | with_reducible (exact Since.refl _) | with_reducible assumption | with_reducible (refine Since.drew ?_) | with_reducible (refine Since.drewN ?_ _) | with_reducible (refine Since.alloc ?_ _) | (with_reducible (refine Since.setCell ?_ ?_ _); rotate_left; focus (first | (simp; done) | (simp; omega) | omega)) | (with_reducible (refine Since.trans ?_ (by with_reducible assumption))))))
  have hE := pm_yes (X := X) (Y := Y) hbad
  obtain ⟨C, rfl⟩ : ∃ C : Nat, c = C := ⟨c.toNat, by omega⟩
  have hn1 : (1 : Int) ≤ n := by omega
  have hn2 : (n : Int) ≤ 1024 := by omega
  have hC1 : (1 : Int) ≤ C := by omega
  have hC2 : (C : Int) ≤ n := by omega
  rw [Int.toNat_natCast] at hE
  have h2 := ((h.alloc (Nat.le_refl _) (.cells #[.slice A n d] 27)).more (B' := (w.alloc (.cells #[.slice A n d] 27)).heap.size) (by simp)).on (Since.alloc (Since.refl _) (.cells #[.int .i64 C] 3))
  have h1 : ∀ w1, Since ((w.alloc (.cells #[.slice A n d] 27)).alloc (.cells #[.int .i64 C] 3)) w1 → w1.cell? ⟨w.heap.size, 0, none⟩ = some (.slice A n d) ∧ w1.cell? ⟨w.heap.size + 1, 0, none⟩ = some (.int .i64 C) ∧ Rd w1 w1.heap.size A (n * 2) (MtV X Y) := fun w1 hS => by
    refine ⟨(hS.1 _ _ (by simp; omega)).trans ?_, (hS.1 _ _ (by simp)).trans ?_, h2.on hS⟩
    · rw [World.cell?_alloc_past _ _ _ (by simp)]; exact cell_box w _ _
    · simp
  have hA1 : ∀ w1, Since ((w.alloc (.cells #[.slice A n d] 27)).alloc (.cells #[.int .i64 C] 3)) w1 → Calls Tryz.prog 105 #[.int .i64 n, .func (.func 106) #[] #[.pointer (some ⟨w.heap.size, 0, none⟩)]] w1 fun e w' => e = .returned (.bool (allB (fitM X Y) n)) ∧ Since w1 w' := fun w1 hS =>
    lo_all 106 #[.pointer (some ⟨w.heap.size, 0, none⟩)] n (fitM X Y) w1 hn enters34 (fun i w2 hi hS2 => lo_pm1 i w.heap.size A n d X Y w2 hi hn (h1 w2 (hS.trans hS2)).1 (h1 w2 (hS.trans hS2)).2.2)
  have hA2 : ∀ w1, Since ((w.alloc (.cells #[.slice A n d] 27)).alloc (.cells #[.int .i64 C] 3)) w1 → Calls Tryz.prog 105 #[.int .i64 n, .func (.func 108) #[] #[.pointer (some ⟨w.heap.size + 1, 0, none⟩), .pointer (some ⟨w.heap.size, 0, none⟩)]] w1 fun e w' => e = .returned (.bool (allB (samA X C) n)) ∧ Since w1 w' := fun w1 hS =>
    lo_all 108 #[.pointer (some ⟨w.heap.size + 1, 0, none⟩), .pointer (some ⟨w.heap.size, 0, none⟩)] n (samA X C) w1 hn enters36 (fun i w2 hi hS2 => lo_pm2 i (w.heap.size + 1) w.heap.size A n d C X Y w2 hi hn (by omega) (h1 w2 (hS.trans hS2)).2.1 (h1 w2 (hS.trans hS2)).1 (h1 w2 (hS.trans hS2)).2.2)
  have H1 := Lib.hid h1; have HXY := Lib.hid hXY
  clear h2 h1 h hXY
  cases hB1 : allB (fitM X Y) n with
  | false =>
    have E := Lib.hid (show pmE X Y n C = 6 by rw [hE, hB1]; rfl)
    rw [hB1] at hA1
    have HA1 := Lib.hid hA1
    clear hA1 hA2 hB1 hE
    go_enter Tryz.func60, Tryz.ntmps60
    go_wp2_with (go_at_call 105; refine ((HA1.out _ (by (repeat (first | with_reducible (exact Since.refl _) | with_reducible assumption | with_reducible (refine Since.drew ?_) | with_reducible (refine Since.drewN ?_ _) | with_reducible (refine Since.alloc ?_ _) | (with_reducible (refine Since.setCell ?_ ?_ _); rotate_left; focus (first | (simp; done) | (simp; omega) | omega)) | (with_reducible (refine Since.trans ?_ (by with_reducible assumption))))))).mono ?_); rintro e w3 ⟨rfl, hS3⟩)
    go_ret2
    exact pm_post E.out rfl Rd.zero (by (repeat (first | with_reducible (exact Since.refl _) | with_reducible assumption | with_reducible (refine Since.drew ?_) | with_reducible (refine Since.drewN ?_ _) | with_reducible (refine Since.alloc ?_ _) | (with_reducible (refine Since.setCell ?_ ?_ _); rotate_left; focus (first | (simp; done) | (simp; omega) | omega)) | (with_reducible (refine Since.trans ?_ (by with_reducible assumption))))))
  | true =>
  cases hB2 : allB (samA X C) n with
  | false =>
    have E := Lib.hid (show pmE X Y n C = 4 by rw [hE, hB1, hB2]; rfl)
    rw [hB1] at hA1
    rw [hB2] at hA2
    have HA1 := Lib.hid hA1; have HA2 := Lib.hid hA2
    have tok1 := True.intro
    clear hA1 hA2 hB1 hB2 hE
    go_enter Tryz.func60, Tryz.ntmps60
    go_wp2_with (first | (go_at_call 105; have _t := tok1; refine ((HA1.out _ (by (repeat (first | with_reducible (exact Since.refl _) | with_reducible assumption | with_reducible (refine Since.drew ?_) | with_reducible (refine Since.drewN ?_ _) | with_reducible (refine Since.alloc ?_ _) | (with_reducible (refine Since.setCell ?_ ?_ _); rotate_left; focus (first | (simp; done) | (simp; omega) | omega)) | (with_reducible (refine Since.trans ?_ (by with_reducible assumption))))))).mono ?_); rintro e w3 ⟨rfl, hS3⟩; clear tok1; have tok2 := True.intro; have k0 := H1.out w3 hS3; obtain ⟨k0a, k0b, k0c⟩ := k0; clear k0c) | (go_at_call 105; have _t := tok2; refine ((HA2.out _ (by (repeat (first | with_reducible (exact Since.refl _) | with_reducible assumption | with_reducible (refine Since.drew ?_) | with_reducible (refine Since.drewN ?_ _) | with_reducible (refine Since.alloc ?_ _) | (with_reducible (refine Since.setCell ?_ ?_ _); rotate_left; focus (first | (simp; done) | (simp; omega) | omega)) | (with_reducible (refine Since.trans ?_ (by with_reducible assumption))))))).mono ?_); rintro e w4 ⟨rfl, hS4⟩; clear tok2))
    go_ret2
    exact pm_post E.out rfl Rd.zero (by (repeat (first | with_reducible (exact Since.refl _) | with_reducible assumption | with_reducible (refine Since.drew ?_) | with_reducible (refine Since.drewN ?_ _) | with_reducible (refine Since.alloc ?_ _) | (with_reducible (refine Since.setCell ?_ ?_ _); rotate_left; focus (first | (simp; done) | (simp; omega) | omega)) | (with_reducible (refine Since.trans ?_ (by with_reducible assumption))))))
  | true =>
    have E := Lib.hid (show pmE X Y n C = 0 by rw [hE, hB1, hB2]; rfl)
    rw [hB1] at hA1
    rw [hB2] at hA2
    have HA1 := Lib.hid hA1; have HA2 := Lib.hid hA2; have HB1 := Lib.hid hB1
    have tok1 := True.intro
    clear hA1 hA2 hB1 hB2 hE
    go_enter Tryz.func60, Tryz.ntmps60
    go_wp2_with (first | (go_at_call 105; have _t := tok1; refine ((HA1.out _ (by (repeat (first | with_reducible (exact Since.refl _) | with_reducible assumption | with_reducible (refine Since.drew ?_) | with_reducible (refine Since.drewN ?_ _) | with_reducible (refine Since.alloc ?_ _) | (with_reducible (refine Since.setCell ?_ ?_ _); rotate_left; focus (first | (simp; done) | (simp; omega) | omega)) | (with_reducible (refine Since.trans ?_ (by with_reducible assumption))))))).mono ?_); rintro e w3 ⟨rfl, hS3⟩; clear tok1; have tok2 := True.intro; have k0 := H1.out w3 hS3; obtain ⟨k0a, k0b, k0c⟩ := k0; clear k0c) | (go_at_call 105; have _t := tok2; refine ((HA2.out _ (by (repeat (first | with_reducible (exact Since.refl _) | with_reducible assumption | with_reducible (refine Since.drew ?_) | with_reducible (refine Since.drewN ?_ _) | with_reducible (refine Since.alloc ?_ _) | (with_reducible (refine Since.setCell ?_ ?_ _); rotate_left; focus (first | (simp; done) | (simp; omega) | omega)) | (with_reducible (refine Since.trans ?_ (by with_reducible assumption))))))).mono ?_); rintro e w4 ⟨rfl, hS4⟩; clear tok2; have k1 := H1.out w4 (hS3.trans hS4); obtain ⟨k2, k3, k4⟩ := k1; have hb1 : w.heap.size < w4.heap.size := (by have := (hS3.trans hS4).below.size; simp at this; omega); have hb2 : w.heap.size + 1 < w4.heap.size := (by have := (hS3.trans hS4).below.size; simp at this; omega); have hT4 : Since w w4 := (by (repeat (first | with_reducible (exact Since.refl _) | with_reducible assumption | with_reducible (refine Since.drew ?_) | with_reducible (refine Since.drewN ?_ _) | with_reducible (refine Since.alloc ?_ _) | (with_reducible (refine Since.setCell ?_ ?_ _); rotate_left; focus (first | (simp; done) | (simp; omega) | omega)) | (with_reducible (refine Since.trans ?_ (by with_reducible assumption))))))))
    have HK := Lib.hid k4
    clear k4 H1 HA1 HA2 hS3 hS4
    go_loopw [6, 39] (fun v y wr => ∃ j : Nat, j ≤ n ∧ y = .int .i64 (j : Int) ∧ Since w4 wr ∧ wr.ownsRow w4.heap.size 5 1 v (pmP C j) (tab (pmP C j) (U8 (pmF X Y C)))) (fun _ y _ => n - (intOf y).toNat)
    case atStart => exact ⟨0, by omega, rfl, Since.refl _, pm_start w4 w4.heap.size C _⟩
    case round =>
      obtain ⟨j, hj, rfl, hSr, hown⟩ := hrel
      obtain ⟨vA, vc, rfl, hvc, hvr, hvb⟩ := own_any hown
      have q2 := (hSr.1 _ 0 hb1).trans k2
      have q3 := (hSr.1 _ 0 hb2).trans k3
      have q4 := hSr.2.2.1 _ hb2
      have q5 := Nat.ne_of_lt q4
      by_cases hjn : j < n
      · have hjn' : (j : Int) < n := by omega
        obtain ⟨b, o, rfl, hb, hcc⟩ := HK.out (by omega)
        have m1 : wr.cell? ⟨b, o + j * 2, none⟩ = some (.int .i64 (X j)) := (hSr.1 _ _ hb).trans ((hcc (j * 2) (by omega)).trans (by rw [mtv_even]))
        have m2 : wr.cell? ⟨b, o + j * 2 + 1, none⟩ = some (.int .i64 (Y j)) := (hSr.1 _ _ hb).trans ((hcc (j * 2 + 1) (by omega)).trans (by rw [mtv_odd]))
        have hfit := fitM_iff.1 (allB_iff.1 HB1.out j hjn)
        have hle := pmP_le C j
        have bnd1 : (pmP C j + 2) * 1 ≤ 140737488355328 := by omega
        have bnd2 : pmP C j + 2 ≤ maxLen := by simp only [maxLen]; omega
        have bnd3 : (pmP C j + 2 + 2) * 1 ≤ 140737488355328 := by omega
        have bnd4 : pmP C j + 2 + 2 ≤ maxLen := by simp only [maxLen]; omega
        have hlt : ∀ g, (Value.slice vA (pmP C j) vc).ownBlock = some g → g < wr.heap.size := fun g hg => own_lt hown hg
        have N1 := Lib.hid (fun hh => pm_next1 X Y C j hh); have N2 := Lib.hid (fun hh => pm_next2 X Y C j hh)
        have HL := Lib.hid hlt; have HV := Lib.hid hvb; have HO := Lib.hid hown
        generalize X j = x at *
        generalize Y j = y at *
        generalize hP : pmP C j = P at *
        obtain ⟨f1, f2, f3, f4⟩ := hfit
        clear hcc hlt hle hvr hvb hown hP k2 k3
        by_cases hjC : j < C
        · have hjC' : (j : Int) < C := by omega
          have HN := Lib.hid (N1.out hjC)
          clear N1 N2
          have tok1 := True.intro
          go_wp2_with (first | (go_at_call 64; have _t := tok1; refine (put_inL 2 x _ _ (by unfold In64; omega) (by rfl) (by omega)).mono ?_; rintro e w5 ⟨g5, rfl, hg5, hR5, hS5⟩; have hs5 : Since wr w5 := (by (repeat (first | with_reducible (exact Since.refl _) | with_reducible assumption | with_reducible (refine Since.drew ?_) | with_reducible (refine Since.drewN ?_ _) | with_reducible (refine Since.alloc ?_ _) | (with_reducible (refine Since.setCell ?_ ?_ _); rotate_left; focus (first | (simp; done) | (simp; omega) | omega)) | (with_reducible (refine Since.trans ?_ (by with_reducible assumption)))))); have hown5 := own_since HO.out hs5; have hr5 := Rd.of_row hR5; have hT5 := hSr.trans hs5; have hq1 : w4.heap.size ≤ w5.heap.size := hT5.below.size; have hb5 : wr.heap.size < w5.heap.size := (by have := hS5.below.size; simp at this; omega); have hc5 : w5.cell? ⟨wr.heap.size, 1, none⟩ = some (.int .i64 y) := (hS5.1 _ 1 (by simp)).trans (by rw [World.cell?_alloc_new]; rfl); clear tok1 hR5 HO; have tok2 := True.intro) | (at_builtin; have _t := tok2; refine wpList_append_any _ (by rfl) _ _ _ (by rfl) w4.heap.size 5 i0 _ 1 Tryz.underlying34 hi0 hz0 hz1 hz2 (by rfl) _ P _ (by rfl) hown5 _ _ 2 2 _ (by rfl) hr5 tab_ones bnd1 bnd2 hq1 ?_; intro v6' w6 hown6 hgr6; obtain ⟨A6, c6, rfl, hcc6, _, hvb6⟩ := (show ∃ A c, v6' = .slice A (P + 2) c ∧ P + 2 ≤ c ∧ True ∧ (∀ k, v6'.ownBlock = some k → w4.heap.size ≤ k) from (own_shape hown6)); have HV6 := Lib.hid hvb6; clear hvb6; have hT6 : Since w4 w6 := since_grown hT5 hgr6 HV.out; have hc6 : w6.cell? ⟨wr.heap.size, 1, none⟩ = some (.int .i64 y) := (grown_cell hgr6 hb5 (fun e => absurd (HL.out _ e) (Nat.lt_irrefl _)) 1).trans hc5; have q6 := (hT6.1 _ 0 hb2).trans ((hSr.1 _ 0 hb2).symm.trans q3); clear hown5 hgr6 hc5 tok2 hr5; have tok3 := True.intro) | (go_at_call 64; have _t := tok3; refine (put_inL 2 y _ _ (by unfold In64; omega) (by rfl) (by omega)).mono ?_; rintro e w7 ⟨g7, rfl, hg7, hR7, hS7⟩; have hown7 := own_since hown6 hS7; have hr7 := Rd.of_row hR7; have hT7 := hT6.trans hS7; have hq2 : w4.heap.size ≤ w7.heap.size := hT7.below.size; clear tok3 hR7 hown6; have tok4 := True.intro) | (at_builtin; have _t := tok4; refine wpList_append_any _ (by rfl) _ _ _ (by rfl) w4.heap.size 5 i0 _ 1 Tryz.underlying34 hi0 hz0 hz1 hz2 (by rfl) _ (P + 2) _ (by rfl) hown7 _ _ 2 2 _ (by rfl) hr7 tab_ones bnd3 bnd4 hq2 ?_; intro v8 w8 hown8 hgr8; have hT8 : Since w4 w8 := since_grown hT7 hgr8 HV6.out; clear hown7 hgr8 tok4 hr7))
          have hnx := HN.out
          have hl := congrArg List.length hnx
          simp only [List.length_append, tab_len] at hl
          rw [hnx, hl] at hown8
          refine ⟨⟨j + 1, by omega, by simp, hT8, hown8⟩, by simp [intOf]; omega⟩
        · have hjC' : ¬ (j : Int) < C := by omega
          have HN := Lib.hid (N2.out (by omega))
          clear N1 N2
          have tok1 := True.intro
          go_wp2_with (first | (go_at_call 64; have _t := tok1; refine (put_inL 2 y _ _ (by unfold In64; omega) (by rfl) (by omega)).mono ?_; rintro e w5 ⟨g5, rfl, hg5, hR5, hS5⟩; have hs5 : Since wr w5 := (by (repeat (first | with_reducible (exact Since.refl _) | with_reducible assumption | with_reducible (refine Since.drew ?_) | with_reducible (refine Since.drewN ?_ _) | with_reducible (refine Since.alloc ?_ _) | (with_reducible (refine Since.setCell ?_ ?_ _); rotate_left; focus (first | (simp; done) | (simp; omega) | omega)) | (with_reducible (refine Since.trans ?_ (by with_reducible assumption)))))); have hown5 := own_since HO.out hs5; have hr5 := Rd.of_row hR5; have hT5 := hSr.trans hs5; have hq1 : w4.heap.size ≤ w5.heap.size := hT5.below.size; clear tok1 hR5 HO; have tok2 := True.intro) | (at_builtin; have _t := tok2; refine wpList_append_any _ (by rfl) _ _ _ (by rfl) w4.heap.size 5 i0 _ 1 Tryz.underlying34 hi0 hz0 hz1 hz2 (by rfl) _ P _ (by rfl) hown5 _ _ 2 2 _ (by rfl) hr5 tab_ones bnd1 bnd2 hq1 ?_; intro v6 w6 hown6 hgr6; have hT6 : Since w4 w6 := since_grown hT5 hgr6 HV.out; clear hown5 hgr6 tok2 hr5))
          have hnx := HN.out
          have hl := congrArg List.length hnx
          simp only [List.length_append, tab_len] at hl
          rw [hnx, hl] at hown6
          refine ⟨⟨j + 1, by omega, by simp, hT6, hown6⟩, by simp [intOf]; omega⟩
      · obtain rfl : j = n := by omega
        clear HK
        go_wp2
        go_ret2
        exact pm_post E.out rfl (by rw [Int.toNat_natCast]; exact hvr) (hT4.trans hSr)
end Go.Proofs.YteckkcpnfeoehaaGreatDoor

/-
  Layer 6: the reference's 'PutMetrics', walked.
-/
namespace Go.Proofs.YteckkcpnfeoehaaGreatDoor
set_option maxRecDepth 100000
open Go.RowKit
set_option linter.unusedVariables false

set_option maxRecDepth 100000 in
set_option maxHeartbeats 8000000 in
theorem ref_putmetrics (A : Option Addr) (n d : Nat) (X Y : Nat → Int) (c : Int) (w : World) (h : Rd w w.heap.size A (n * 2) (MtV X Y)) (hXY : ∀ j, j < n → In64 (X j) ∧ In64 (Y j)) (hn : n ≤ maxLen) :
    Calls Tryz.prog 73 #[.slice A n d, .int .i64 c] w (PmPost X Y n c w) := by
  obtain ⟨i0, hi0, hz0, hz1, hz2⟩ := info_parts Tryz.info_u8
  have hn' : (n : Int) ≤ 9223372036854775807 := by simp only [maxLen] at hn; omega
  by_cases hbad : n < 1 ∨ 1024 < n ∨ c < 1 ∨ (n : Int) < c
  · have E := Lib.hid (show pmE X Y n c = 2 by unfold pmE; rw [if_pos hbad])
    have hb := pm_bad hbad
    clear hbad h
    rcases hb with h1 | ⟨h1, h2⟩ | ⟨h1, h2, h3⟩ | ⟨h1, h2, h3, h4⟩
    all_goals
      go_enter Tryz.func73, Tryz.ntmps73
      go_wp2
      go_ret2
      exact pm_post E.out rfl Rd.zero (by (repeat (first | with_reducible (exact Since.refl _) | with_reducible assumption | with_reducible (refine Since.drew ?_) | with_reducible (refine Since.drewN ?_ _) | with_reducible (refine Since.alloc ?_ _) | (with_reducible (refine Since.setCell ?_ ?_ _); rotate_left; focus (first | (simp; done) | (simp; omega) | omega)) | (with_reducible (refine Since.trans ?_ (by with_reducible assumption))))))
  have hE := pm_yes (X := X) (Y := Y) hbad
  obtain ⟨C, rfl⟩ : ∃ C : Nat, c = C := ⟨c.toNat, by omega⟩
  have hn1 : (1 : Int) ≤ n := by omega
  have hn2 : (n : Int) ≤ 1024 := by omega
  have hC1 : (1 : Int) ≤ C := by omega
  have hC2 : (C : Int) ≤ n := by omega
  rw [Int.toNat_natCast] at hE
  have dC : decide (n < C) = false := by simp; omega
  have HE := Lib.hid hE; have HH := Lib.hid h
  clear hE hbad h
  go_enter Tryz.func73, Tryz.ntmps73
  go_wp2
  go_loopw [31] (fun y wr => ∃ j : Nat, j ≤ n ∧ y = .int .i64 (j : Int) ∧ Since w wr ∧ allB (fitM X Y) j = true) (fun y _ => n - (intOf y).toNat)
  case atStart => exact ⟨0, by omega, rfl, Since.refl _, rfl⟩
  case round =>
    obtain ⟨j, hj, rfl, hSr, hall⟩ := hrel
    have HA := Lib.hid hall; clear hall
    by_cases hjn : j < n
    · have hjn' : (j : Int) < n := by omega
      obtain ⟨b, o, rfl, hb, hcc⟩ := HH.out (by omega)
      have m1 : wr.cell? ⟨b, o + j * 2, none⟩ = some (.int .i64 (X j)) := (hSr.1 _ _ hb).trans ((hcc (j * 2) (by omega)).trans (by rw [mtv_even]))
      have m2 : wr.cell? ⟨b, o + j * 2 + 1, none⟩ = some (.int .i64 (Y j)) := (hSr.1 _ _ hb).trans ((hcc (j * 2 + 1) (by omega)).trans (by rw [mtv_odd]))
      by_cases hf : fitM X Y j = true
      · have HF := Lib.hid (allB_next HA.out hf)
        have hfit := fitM_iff.1 hf
        generalize X j = x at *
        generalize Y j = y at *
        obtain ⟨f1, f2, f3, f4⟩ := hfit
        clear hcc hf
        go_wp2
        exact ⟨⟨j + 1, by omega, by simp, by (repeat (first | with_reducible (exact Since.refl _) | with_reducible assumption | with_reducible (refine Since.drew ?_) | with_reducible (refine Since.drewN ?_ _) | with_reducible (refine Since.alloc ?_ _) | (with_reducible (refine Since.setCell ?_ ?_ _); rotate_left; focus (first | (simp; done) | (simp; omega) | omega)) | (with_reducible (refine Since.trans ?_ (by with_reducible assumption))))), HF.out⟩, by simp [intOf]; omega⟩
      · have hno : fitM X Y j = false := by simpa using hf
        have E := Lib.hid (show pmE X Y n C = 6 by rw [HE.out, allB_no hno hjn]; rfl)
        have hcase : X j < 0 ∨ (0 ≤ X j ∧ 65535 < X j) ∨ (0 ≤ X j ∧ X j ≤ 65535 ∧ Y j < -32768) ∨ (0 ≤ X j ∧ X j ≤ 65535 ∧ -32768 ≤ Y j ∧ 32767 < Y j) := by
          have h2 : ¬ (0 ≤ X j ∧ X j ≤ 65535 ∧ -32768 ≤ Y j ∧ Y j ≤ 32767) := fun hh => hf (fitM_iff.2 hh)
          omega
        generalize X j = x at *
        generalize Y j = y at *
        clear hcc hf hno
        rcases hcase with k1 | ⟨k1, k2⟩ | ⟨k1, k2, k3⟩ | ⟨k1, k2, k3, k4⟩
        all_goals
          go_wp2
          go_ret2
          exact pm_post E.out rfl Rd.zero (by (repeat (first | with_reducible (exact Since.refl _) | with_reducible assumption | with_reducible (refine Since.drew ?_) | with_reducible (refine Since.drewN ?_ _) | with_reducible (refine Since.alloc ?_ _) | (with_reducible (refine Since.setCell ?_ ?_ _); rotate_left; focus (first | (simp; done) | (simp; omega) | omega)) | (with_reducible (refine Since.trans ?_ (by with_reducible assumption))))))
    · obtain rfl : j = n := by omega
      have HF := Lib.hid HA.out
      clear hjn HA
      go_wp2
      refine wp_named fun w4 hw4 => ?_
      have hT4 : Since w w4 := by subst hw4; exact hSr
      have HK := Lib.hid (HH.out.on hT4)
      clear hw4 hSr
      go_loopw [8, 56] (fun v y wr => ∃ i : Nat, i ≤ j ∧ y = .int .i64 (i : Int) ∧ Since w4 wr ∧ wr.ownsRow w4.heap.size 5 1 v (pmP C i) (tab (pmP C i) (U8 (pmF X Y C))) ∧ allB (samA X C) i = true) (fun _ y _ => j - (intOf y).toNat)
      case atStart => exact ⟨0, by omega, rfl, Since.refl _, pm_start w4 w4.heap.size C _, rfl⟩
      case round =>
        obtain ⟨i, hi, rfl, hSr, hown, hall⟩ := hrel
        have HS := Lib.hid hall; clear hall
        obtain ⟨vA, vc, rfl, hvc, hvr, hvb⟩ := own_any hown
        by_cases hin : i < j
        · have hin' : (i : Int) < j := by omega
          obtain ⟨b, o, rfl, hb, hcc⟩ := HK.out (by omega)
          have m1 : wr.cell? ⟨b, o + i * 2, none⟩ = some (.int .i64 (X i)) := (hSr.1 _ _ hb).trans ((hcc (i * 2) (by omega)).trans (by rw [mtv_even]))
          have m2 : wr.cell? ⟨b, o + i * 2 + 1, none⟩ = some (.int .i64 (Y i)) := (hSr.1 _ _ hb).trans ((hcc (i * 2 + 1) (by omega)).trans (by rw [mtv_odd]))
          have m3 : wr.cell? ⟨b, o + (C - 1) * 2, none⟩ = some (.int .i64 (X (C - 1))) := (hSr.1 _ _ hb).trans ((hcc ((C - 1) * 2) (by omega)).trans (by rw [mtv_even]))
          have hbn : b < wr.heap.size := Nat.lt_of_lt_of_le hb hSr.below.size
          have hfit := fitM_iff.1 (allB_iff.1 HF.out i hin)
          have hle := pmP_le C i
          have bnd1 : (pmP C i + 2) * 1 ≤ 140737488355328 := by omega
          have bnd2 : pmP C i + 2 ≤ maxLen := by simp only [maxLen]; omega
          have bnd3 : (pmP C i + 2 + 2) * 1 ≤ 140737488355328 := by omega
          have bnd4 : pmP C i + 2 + 2 ≤ maxLen := by simp only [maxLen]; omega
          have hlt : ∀ g, (Value.slice vA (pmP C i) vc).ownBlock = some g → g < wr.heap.size := fun g hg => own_lt hown hg
          have N1 := Lib.hid (fun hh => pm_next1 X Y C i hh); have N2 := Lib.hid (fun hh => pm_next2 X Y C i hh)
          have HL := Lib.hid hlt; have HV := Lib.hid hvb; have HO := Lib.hid hown
          by_cases hiC : i < C
          · have hsam : samA X C i = true := by unfold samA; rw [decide_eq_true hiC]; rfl
            have HS2 := Lib.hid (allB_next HS.out hsam)
            have hjC' : (i : Int) < C := by omega
            have d0 : decide ((C : Int) ≤ i) = false := by simp; omega
            have d1 : decide (C ≤ i) = false := by simp; omega
            have HN := Lib.hid (N1.out hiC)
            generalize X i = x at *
            generalize Y i = y at *
            generalize hP : pmP C i = P at *
            obtain ⟨f1, f2, f3, f4⟩ := hfit
            have tok1 := True.intro
            clear hcc hlt hle hvr hvb hown hP N1 N2 m3 hiC hsam
            go_wp2_with fail
            go_quiet (fail)
            go_wp2_with (first | (go_at_call 83; have _t := tok1; refine (rput_inL 2 x _ _ (by unfold In64; omega) (by rfl) (by omega)).mono ?_; rintro e w5 ⟨g5, rfl, hg5, hR5, hS5⟩; have hs5 : Since wr w5 := (by (repeat (first | with_reducible (exact Since.refl _) | with_reducible assumption | with_reducible (refine Since.drew ?_) | with_reducible (refine Since.drewN ?_ _) | with_reducible (refine Since.alloc ?_ _) | (with_reducible (refine Since.setCell ?_ ?_ _); rotate_left; focus (first | (simp; done) | (simp; omega) | omega)) | (with_reducible (refine Since.trans ?_ (by with_reducible assumption)))))); have hown5 := own_since HO.out hs5; have hr5 := Rd.of_row hR5; have hT5 := hSr.trans hs5; have hq1 : w4.heap.size ≤ w5.heap.size := hT5.below.size; have hb5 : wr.heap.size < w5.heap.size := (by have := hS5.below.size; simp at this; omega); have hc5 : w5.cell? ⟨wr.heap.size, 1, none⟩ = some (.int .i64 y) := (hS5.1 _ 1 (by simp)).trans (show (wr.alloc (.cells #[.int .i64 x, .int .i64 y] 89)).cell? _ = _ from (by rw [World.cell?_alloc_new]; rfl)); clear tok1 hR5 HO; have tok2 := True.intro) | (at_builtin; have _t := tok2; refine wpList_append_any _ (by rfl) _ _ _ (by rfl) w4.heap.size 5 i0 _ 1 Tryz.underlying34 hi0 hz0 hz1 hz2 (by rfl) _ P _ (by rfl) hown5 _ _ 2 2 _ (by rfl) hr5 tab_ones bnd1 bnd2 hq1 ?_; intro v6' w6 hown6 hgr6; obtain ⟨A6, c6, rfl, hcc6, _, hvb6⟩ := own_shape hown6; have HV6 := Lib.hid hvb6; clear hvb6; have hT6 : Since w4 w6 := since_grown hT5 hgr6 HV.out; have hc6 : w6.cell? ⟨wr.heap.size, 1, none⟩ = some (.int .i64 y) := (grown_cell hgr6 hb5 (fun e => absurd (HL.out _ e) (Nat.lt_irrefl _)) 1).trans hc5; clear hown5 hgr6 hc5 tok2 hr5; have tok3 := True.intro) | (go_at_call 83; have _t := tok3; refine (rput_inL 2 y _ _ (by unfold In64; omega) (by rfl) (by omega)).mono ?_; rintro e w7 ⟨g7, rfl, hg7, hR7, hS7⟩; have hown7 := own_since hown6 hS7; have hr7 := Rd.of_row hR7; have hT7 := hT6.trans hS7; have hq2 : w4.heap.size ≤ w7.heap.size := hT7.below.size; clear tok3 hR7 hown6; have tok4 := True.intro) | (at_builtin; have _t := tok4; refine wpList_append_any _ (by rfl) _ _ _ (by rfl) w4.heap.size 5 i0 _ 1 Tryz.underlying34 hi0 hz0 hz1 hz2 (by rfl) _ (P + 2) _ (by rfl) hown7 _ _ 2 2 _ (by rfl) hr7 tab_ones bnd3 bnd4 hq2 ?_; intro v8 w8 hown8 hgr8; have hT8 : Since w4 w8 := since_grown hT7 hgr8 HV6.out; clear hown7 hgr8 tok4 hr7))
            have hnx := HN.out
            have hl := congrArg List.length hnx
            simp only [List.length_append, tab_len] at hl
            rw [hnx, hl] at hown8
            exact ⟨⟨i + 1, by omega, by simp, hT8, hown8, HS2.out⟩, by simp [intOf]; omega⟩
          · have hjC' : ¬ (i : Int) < C := by omega
            have d0 : decide ((C : Int) ≤ i) = true := by simp; omega
            have d1 : decide (C ≤ i) = true := by simp; omega
            have e2 : IntKind.i64.wrap ((C : Int) - 1) = ((C - 1 : Nat) : Int) := by rw [IntWalk.i64_in _ (by omega)]; omega
            have i2 : ((C - 1 : Nat) : Int) < j := by omega
            have hsm : samA X C i = (X i == X (C - 1)) := by unfold samA; rw [decide_eq_false hiC]; rfl
            have HN := Lib.hid (N2.out (by omega))
            by_cases hxx : X i = X (C - 1)
            · have HS2 := Lib.hid (allB_next HS.out (show samA X C i = true by rw [hsm]; simpa using hxx))
              rw [← hxx] at m3
              generalize X i = x at *
              generalize Y i = y at *
              generalize hP : pmP C i = P at *
              obtain ⟨f1, f2, f3, f4⟩ := hfit
              obtain ⟨D, hD⟩ : ∃ D, C - 1 = D := ⟨_, rfl⟩
              rw [hD] at m3 e2 i2
              have i3 : (0 : Int) ≤ D := by omega
              have tok1 := True.intro
              clear hcc hlt hle hvr hvb hown hP N1 N2 hiC hxx hsm hD
              go_wp2_with fail
              go_quiet (fail)
              go_wp2_with (first | (go_at_call 83; have _t := tok1; refine (rput_inL 2 y _ _ (by unfold In64; omega) (by rfl) (by omega)).mono ?_; rintro e w5 ⟨g5, rfl, hg5, hR5, hS5⟩; have hs5 : Since wr w5 := (by (repeat (first | with_reducible (exact Since.refl _) | with_reducible assumption | with_reducible (refine Since.drew ?_) | with_reducible (refine Since.drewN ?_ _) | with_reducible (refine Since.alloc ?_ _) | (with_reducible (refine Since.setCell ?_ ?_ _); rotate_left; focus (first | (simp; done) | (simp; omega) | omega)) | (with_reducible (refine Since.trans ?_ (by with_reducible assumption)))))); have hown5 := own_since HO.out hs5; have hr5 := Rd.of_row hR5; have hT5 := hSr.trans hs5; have hq1 : w4.heap.size ≤ w5.heap.size := hT5.below.size; clear tok1 hR5 HO; have tok2 := True.intro) | (at_builtin; have _t := tok2; refine wpList_append_any _ (by rfl) _ _ _ (by rfl) w4.heap.size 5 i0 _ 1 Tryz.underlying34 hi0 hz0 hz1 hz2 (by rfl) _ P _ (by rfl) hown5 _ _ 2 2 _ (by rfl) hr5 tab_ones bnd1 bnd2 hq1 ?_; intro v6 w6 hown6 hgr6; have hT6 : Since w4 w6 := since_grown hT5 hgr6 HV.out; clear hown5 hgr6 tok2 hr5))
              have hnx := HN.out
              have hl := congrArg List.length hnx
              simp only [List.length_append, tab_len] at hl
              rw [hnx, hl] at hown6
              exact ⟨⟨i + 1, by omega, by simp, hT6, hown6, HS2.out⟩, by simp [intOf]; omega⟩
            · have hno : samA X C i = false := by rw [hsm]; simpa using hxx
              have E := Lib.hid (show pmE X Y j C = 4 by rw [HE.out, HF.out, allB_no hno hin]; rfl)
              have dx : (X i != X (C - 1)) = true := by simpa using hxx
              generalize X i = x at *
              generalize X (C - 1) = z at *
              generalize Y i = y at *
              obtain ⟨D, hD⟩ : ∃ D, C - 1 = D := ⟨_, rfl⟩
              rw [hD] at m3 e2 i2
              have i3 : (0 : Int) ≤ D := by omega
              clear hcc hlt hle hvr hvb hown N1 N2 hiC hxx hsm hD hno hfit
              go_wp2_with fail
              go_quiet (fail)
              go_wp2
              go_ret2
              exact pm_post E.out rfl Rd.zero (hT4.trans (by (repeat (first | with_reducible (exact Since.refl _) | with_reducible assumption | with_reducible (refine Since.drew ?_) | with_reducible (refine Since.drewN ?_ _) | with_reducible (refine Since.alloc ?_ _) | (with_reducible (refine Since.setCell ?_ ?_ _); rotate_left; focus (first | (simp; done) | (simp; omega) | omega)) | (with_reducible (refine Since.trans ?_ (by with_reducible assumption)))))))
        · obtain rfl : i = j := by omega
          have E := Lib.hid (show pmE X Y i C = 0 by rw [HE.out, HF.out, HS.out]; rfl)
          clear HK
          go_wp2
          go_ret2
          exact pm_post E.out rfl (by rw [Int.toNat_natCast]; exact hvr) (hT4.trans hSr)
end Go.Proofs.YteckkcpnfeoehaaGreatDoor

/-
  Layer 6: the law LocaPuts, walked.
-/
namespace Go.Proofs.YteckkcpnfeoehaaGreatDoor
set_option maxRecDepth 100000
open Go.RowKit
set_option linter.unusedVariables false

theorem two_bytes (f : Nat → Int) (p : Nat) (x : Int) (h0 : f p = byteOf x 2 0) (h1 : f (p + 1) = byteOf x 2 1) : numAt f p 2 = x % 65536 := by
  simp only [numAt, Nat.add_zero, h0, h1, byteOf, Nat.reduceSub, Nat.reduceMul, Int.reducePow]
  omega
theorem sgn_mod2 {x : Int} (h : -32768 ≤ x ∧ x ≤ 32767) : sgn 2 (x % 65536) = x := by
  unfold sgn
  simp only [Int.reducePow]
  split <;> omega
theorem pm_num1 (X Y : Nat → Int) (C i : Nat) (h : i < C) : numAt (pmF X Y C) (4 * i) 2 = X i % 65536 := by
  refine two_bytes _ _ _ ?_ ?_
  · unfold pmF; rw [if_pos (by omega), if_pos (by omega), show 4 * i / 4 = i by omega, show 4 * i % 4 = 0 by omega]
  · unfold pmF; rw [if_pos (by omega), if_pos (by omega), show (4 * i + 1) / 4 = i by omega, show (4 * i + 1) % 4 = 1 by omega]
theorem pm_num2 (X Y : Nat → Int) (C i : Nat) (h : i < C) : numAt (pmF X Y C) (4 * i + 2) 2 = Y i % 65536 := by
  refine two_bytes _ _ _ ?_ ?_
  · unfold pmF; rw [if_pos (by omega), if_neg (by omega), show (4 * i + 2) / 4 = i by omega, show (4 * i + 2) % 4 - 2 = 0 by omega]
  · unfold pmF; rw [if_pos (by omega), if_neg (by omega), show (4 * i + 2 + 1) / 4 = i by omega, show (4 * i + 2 + 1) % 4 - 2 = 1 by omega]
theorem pm_num3 (X Y : Nat → Int) (C i : Nat) (h : C ≤ i) : numAt (pmF X Y C) (4 * C + 2 * (i - C)) 2 = Y i % 65536 := by
  refine two_bytes _ _ _ ?_ ?_
  · unfold pmF; rw [if_neg (by omega), show C + (4 * C + 2 * (i - C) - 4 * C) / 2 = i by omega, show (4 * C + 2 * (i - C) - 4 * C) % 2 = 0 by omega]
  · unfold pmF; rw [if_neg (by omega), show C + (4 * C + 2 * (i - C) + 1 - 4 * C) / 2 = i by omega, show (4 * C + 2 * (i - C) + 1 - 4 * C) % 2 = 1 by omega]
theorem pm_back {X Y : Nat → Int} {n C i : Nat} (hC : 1 ≤ C ∧ C ≤ n) (h1 : allB (fitM X Y) n = true) (h2 : allB (samA X C) n = true) (hi : i < n) : mtA (pmF X Y C) C i = X i ∧ mtB (pmF X Y C) C i = Y i := by
  have hf := fitM_iff.1 (allB_iff.1 h1 i hi)
  have hf0 := fitM_iff.1 (allB_iff.1 h1 (C - 1) (by omega))
  have hs := allB_iff.1 h2 i hi
  unfold mtA mtB
  by_cases hiC : i < C
  · rw [if_pos hiC, if_pos hiC, pm_num1 X Y C i hiC, pm_num2 X Y C i hiC, sgn_mod2 (by omega)]
    exact ⟨by omega, rfl⟩
  · rw [if_neg hiC, if_neg hiC, pm_num1 X Y C (C - 1) (by omega), pm_num3 X Y C i (by omega), sgn_mod2 (by omega)]
    unfold samA at hs
    rw [decide_eq_false hiC] at hs
    simp at hs
    exact ⟨by omega, rfl⟩
theorem pmF_range (X Y : Nat → Int) (C : Nat) : ∀ q, 0 ≤ pmF X Y C q ∧ pmF X Y C q ≤ 255 := fun q => by
  unfold pmF
  split
  · split
    · exact byte_rangeL _ _ _
    · exact byte_rangeL _ _ _
  · exact byte_rangeL _ _ _
end Go.Proofs.YteckkcpnfeoehaaGreatDoor
