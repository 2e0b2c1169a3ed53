/-
  Layer 8: readMatrix, readCode, walked.
-/
import Derived.Test.YtpplnapfpoloiaaCoB
import Derived.Test.YtpplnapfpoloiaaKitB
import Derived.Test.YtpplnapfpoloiaaMgB
import Derived.Deep.QuietTactic
import Derived.BigQuiet
namespace Go.Proofs.Ytpplnapfpoloiaa
open Go.RowKit Go.ChangeShapes Go.WideShapes Go.Deep
set_option linter.unusedVariables false

def matA (f : Nat → Int) (p k : Nat) : List Value := [.int .i64 (if k = 0 then 16384 else s2 f p), .int .i64 (if k = 4 then s2 f (p + 2) else 0), .int .i64 (if k = 4 then s2 f (p + 4) else 0),
  .int .i64 (if k = 0 then 16384 else if k = 1 then s2 f p else if k = 2 then s2 f (p + 2) else s2 f (p + 6))]
def mtF (f : Nat → Int) (p k : Nat) (j : Nat) : Value := .int .i64 (if j < k then s2 f (p + 2 * j) else 0)
theorem mtF_next (f : Nat → Int) (p j t : Nat) : (if t = j then Value.int .i64 (s2 f (p + 2 * j)) else mtF f p j t) = mtF f p (j + 1) t := by
  unfold mtF
  by_cases e : t = j
  · subst e; rw [if_pos rfl, if_pos (by omega)]
  · rw [if_neg e]
    by_cases h : t < j
    · rw [if_pos h, if_pos (by omega)]
    · rw [if_neg h, if_neg (by omega)]
theorem row4 {w : World} {b : Nat} {F : Nat → Value} (h : Row w b 4 F) : w.cell? ⟨b, 0, none⟩ = some (F 0) ∧ w.cell? ⟨b, 1, none⟩ = some (F 1) ∧ w.cell? ⟨b, 2, none⟩ = some (F 2) ∧ w.cell? ⟨b, 3, none⟩ = some (F 3) ∧ b < w.heap.size :=
  ⟨h.1 0 (by omega), h.1 1 (by omega), h.1 2 (by omega), h.1 3 (by omega), h.2.2⟩
theorem zero4 (w : World) (b : Nat) (hb : b = w.heap.size) (t : TypeId) : Row (w.alloc (.cells #[.int .i64 0, .int .i64 0, .int .i64 0, .int .i64 0] t)) b 4 (fun _ => .int .i64 0) := by
  subst hb
  refine Row.of_cells fun j hj => ?_
  have h : j = 0 ∨ j = 1 ∨ j = 2 ∨ j = 3 := by omega
  rcases h with rfl | rfl | rfl | rfl <;> rfl

set_option maxRecDepth 100000 in
set_option maxHeartbeats 4000000 in
theorem co_rmat0 (A : Option Addr) (n c : Nat) (f : Nat → Int) (p : Nat) (x : Int) (w : World) (h : Rd w w.heap.size A n (U8 f)) (hf : ∀ j, j < n → 0 ≤ f j ∧ f j ≤ 255) (hx : x = p) (hp : p + 2 * 0 ≤ n) (hn : n ≤ 140737488355328) :
    Calls Try.prog 110 #[.slice A n c, .int .i64 x, .int .i64 0] w fun e w' => e = .returned (.agg (matA f p 0).toArray) ∧ Since w w' := by
  have hpn : (p : Int) ≤ 140737488355328 := by omega
  have HF := Lib.hid hf
  clear hf
  go_enter Try.func110, Try.ntmps110
  go_wp2_with fail
  go_loopw [10] (fun y wr => ∃ j : Nat, j ≤ 0 ∧ y = .int .i64 (j : Int) ∧ Since w wr ∧ Row wr w.heap.size 4 (fun _ => .int .i64 0) ∧ Row wr (w.heap.size + 1) 4 (mtF f p j)) (fun y _ => 0 - (intOf y).toNat)
  case atStart =>
    refine ⟨0, by omega, rfl, by (repeat (first | with_reducible (exact Since.refl _) | with_reducible assumption | with_reducible (refine Since.drew ?_) | with_reducible (refine Since.drewN ?_ _) | with_reducible (refine Since.alloc ?_ _) | (with_reducible (refine Since.setCell ?_ ?_ _); rotate_left; focus (first | (simp; done) | (simp; omega) | omega)) | (with_reducible (refine Since.trans ?_ (by with_reducible assumption))))), ?_, ?_⟩
    · exact (zero4 w _ rfl _).alloc _
    · exact (zero4 (w.alloc _) _ (by simp) _)
  case round =>
    obtain ⟨j, hj, rfl, hS, hR0, hR⟩ := hrel
    by_cases hjm : j < 0
    · first
      | exact absurd hjm (by omega)
      | have hjm' : (j : Int) < 0 := by omega
        have hcell := hR.1 j (by omega)
        have hfr := hR.2.1 j
        have hlt := hR.2.2
        have hC := s_in A n c f (p + 2 * j) 2 (x + 2 * (j : Int)) 2 wr (h.on hS) HF.out (by omega) rfl (by omega) (by omega) hn
        have e0 : sgn 2 (numAt f (p + 2 * j) 2) = s2 f (p + 2 * j) := rfl
        rw [e0] at hC
        generalize hv : s2 f (p + 2 * j) = v at *
        have HV := Lib.hid hv
        clear hv e0 h hp
        subst hx
        go_wp2_with (go_at_call 72; (with_reducible refine hC.mono ?_); rintro e w2 ⟨rfl, rfl⟩)
        go_roundw
        case rel =>
          refine ⟨j + 1, by omega, by go_num, by (repeat (first | with_reducible (exact Since.refl _) | with_reducible assumption | with_reducible (refine Since.drew ?_) | with_reducible (refine Since.drewN ?_ _) | with_reducible (refine Since.alloc ?_ _) | (with_reducible (refine Since.setCell ?_ ?_ _); rotate_left; focus (first | (simp; done) | (simp; omega) | omega)) | (with_reducible (refine Since.trans ?_ (by with_reducible assumption))))), hR0.far (by omega) _ _, (hR.set j _).congr (fun t ht => ?_)⟩
          rw [← HV.out]
          exact mtF_next f p j t
        case measure => simp [intOf]; omega
    · obtain rfl : j = 0 := by omega
      obtain ⟨c0, c1, c2, c3, hlt⟩ := row4 hR
      obtain ⟨z0, z1, z2, z3, hlt0⟩ := row4 hR0
      have f0 := hR0.2.1 0
      have f1 := hR0.2.1 1
      have f2 := hR0.2.1 2
      have f3 := hR0.2.1 3
      have e0 : mtF f p 0 0 = .int .i64 (if 0 < 0 then s2 f p else 0) := rfl
      have e1 : mtF f p 0 1 = .int .i64 (if 1 < 0 then s2 f (p + 2) else 0) := rfl
      have e2 : mtF f p 0 2 = .int .i64 (if 2 < 0 then s2 f (p + 4) else 0) := rfl
      have e3 : mtF f p 0 3 = .int .i64 (if 3 < 0 then s2 f (p + 6) else 0) := rfl
      rw [e0] at c0
      rw [e1] at c1
      rw [e2] at c2
      rw [e3] at c3
      have hE := (show matA f p 0 = [.int .i64 (if 0 = 0 then 16384 else s2 f p), .int .i64 (if 0 = 4 then s2 f (p + 2) else 0), .int .i64 (if 0 = 4 then s2 f (p + 4) else 0),
  .int .i64 (if 0 = 0 then 16384 else if 0 = 1 then s2 f p else if 0 = 2 then s2 f (p + 2) else s2 f (p + 6))] from rfl)
      generalize s2 f p = v0 at *
      generalize s2 f (p + 2) = v1 at *
      generalize s2 f (p + 4) = v2 at *
      generalize s2 f (p + 6) = v3 at *
      simp at c0 c1 c2 c3 hE
      have E := Lib.hid hE
      clear e0 e1 e2 e3 h hE
      go_wp2_with fail
      refine ret_agg rfl rfl (cs := matA f p 0) ?_ Try.underlying117 rfl (by kernel_rfl) rfl ?_
      rotate_left
      · exact ⟨rfl, by (repeat (first | with_reducible (exact Since.refl _) | with_reducible assumption | with_reducible (refine Since.drew ?_) | with_reducible (refine Since.drewN ?_ _) | with_reducible (refine Since.alloc ?_ _) | (with_reducible (refine Since.setCell ?_ ?_ _); rotate_left; focus (first | (simp; done) | (simp; omega) | omega)) | (with_reducible (refine Since.trans ?_ (by with_reducible assumption)))))⟩
      · intro j v hv
        rw [E.out] at hv
        have hj : j = 0 ∨ j = 1 ∨ j = 2 ∨ j = 3 := by
          have : j < 4 := by
            rcases Nat.lt_or_ge j 4 with h | h
            · exact h
            · rw [List.getElem?_eq_none (by simpa using h)] at hv; cases hv
          omega
        rcases hj with rfl | rfl | rfl | rfl <;> (simp at hv; subst hv; simp [go_sem, z0, z1, z2, z3])

set_option maxRecDepth 100000 in
set_option maxHeartbeats 4000000 in
theorem co_rmat1 (A : Option Addr) (n c : Nat) (f : Nat → Int) (p : Nat) (x : Int) (w : World) (h : Rd w w.heap.size A n (U8 f)) (hf : ∀ j, j < n → 0 ≤ f j ∧ f j ≤ 255) (hx : x = p) (hp : p + 2 * 1 ≤ n) (hn : n ≤ 140737488355328) :
    Calls Try.prog 110 #[.slice A n c, .int .i64 x, .int .i64 1] w fun e w' => e = .returned (.agg (matA f p 1).toArray) ∧ Since w w' := by
  have hpn : (p : Int) ≤ 140737488355328 := by omega
  have HF := Lib.hid hf
  clear hf
  go_enter Try.func110, Try.ntmps110
  go_wp2_with fail
  go_loopw [10] (fun y wr => ∃ j : Nat, j ≤ 1 ∧ y = .int .i64 (j : Int) ∧ Since w wr ∧ Row wr w.heap.size 4 (fun _ => .int .i64 0) ∧ Row wr (w.heap.size + 1) 4 (mtF f p j)) (fun y _ => 1 - (intOf y).toNat)
  case atStart =>
    refine ⟨0, by omega, rfl, by (repeat (first | with_reducible (exact Since.refl _) | with_reducible assumption | with_reducible (refine Since.drew ?_) | with_reducible (refine Since.drewN ?_ _) | with_reducible (refine Since.alloc ?_ _) | (with_reducible (refine Since.setCell ?_ ?_ _); rotate_left; focus (first | (simp; done) | (simp; omega) | omega)) | (with_reducible (refine Since.trans ?_ (by with_reducible assumption))))), ?_, ?_⟩
    · exact (zero4 w _ rfl _).alloc _
    · exact (zero4 (w.alloc _) _ (by simp) _)
  case round =>
    obtain ⟨j, hj, rfl, hS, hR0, hR⟩ := hrel
    by_cases hjm : j < 1
    · first
      | exact absurd hjm (by omega)
      | have hjm' : (j : Int) < 1 := by omega
        have hcell := hR.1 j (by omega)
        have hfr := hR.2.1 j
        have hlt := hR.2.2
        have hC := s_in A n c f (p + 2 * j) 2 (x + 2 * (j : Int)) 2 wr (h.on hS) HF.out (by omega) rfl (by omega) (by omega) hn
        have e0 : sgn 2 (numAt f (p + 2 * j) 2) = s2 f (p + 2 * j) := rfl
        rw [e0] at hC
        generalize hv : s2 f (p + 2 * j) = v at *
        have HV := Lib.hid hv
        clear hv e0 h hp
        subst hx
        go_wp2_with (go_at_call 72; (with_reducible refine hC.mono ?_); rintro e w2 ⟨rfl, rfl⟩)
        go_roundw
        case rel =>
          refine ⟨j + 1, by omega, by go_num, by (repeat (first | with_reducible (exact Since.refl _) | with_reducible assumption | with_reducible (refine Since.drew ?_) | with_reducible (refine Since.drewN ?_ _) | with_reducible (refine Since.alloc ?_ _) | (with_reducible (refine Since.setCell ?_ ?_ _); rotate_left; focus (first | (simp; done) | (simp; omega) | omega)) | (with_reducible (refine Since.trans ?_ (by with_reducible assumption))))), hR0.far (by omega) _ _, (hR.set j _).congr (fun t ht => ?_)⟩
          rw [← HV.out]
          exact mtF_next f p j t
        case measure => simp [intOf]; omega
    · obtain rfl : j = 1 := by omega
      obtain ⟨c0, c1, c2, c3, hlt⟩ := row4 hR
      obtain ⟨z0, z1, z2, z3, hlt0⟩ := row4 hR0
      have f0 := hR0.2.1 0
      have f1 := hR0.2.1 1
      have f2 := hR0.2.1 2
      have f3 := hR0.2.1 3
      have e0 : mtF f p 1 0 = .int .i64 (if 0 < 1 then s2 f p else 0) := rfl
      have e1 : mtF f p 1 1 = .int .i64 (if 1 < 1 then s2 f (p + 2) else 0) := rfl
      have e2 : mtF f p 1 2 = .int .i64 (if 2 < 1 then s2 f (p + 4) else 0) := rfl
      have e3 : mtF f p 1 3 = .int .i64 (if 3 < 1 then s2 f (p + 6) else 0) := rfl
      rw [e0] at c0
      rw [e1] at c1
      rw [e2] at c2
      rw [e3] at c3
      have hE := (show matA f p 1 = [.int .i64 (if 1 = 0 then 16384 else s2 f p), .int .i64 (if 1 = 4 then s2 f (p + 2) else 0), .int .i64 (if 1 = 4 then s2 f (p + 4) else 0),
  .int .i64 (if 1 = 0 then 16384 else if 1 = 1 then s2 f p else if 1 = 2 then s2 f (p + 2) else s2 f (p + 6))] from rfl)
      generalize s2 f p = v0 at *
      generalize s2 f (p + 2) = v1 at *
      generalize s2 f (p + 4) = v2 at *
      generalize s2 f (p + 6) = v3 at *
      simp at c0 c1 c2 c3 hE
      have E := Lib.hid hE
      clear e0 e1 e2 e3 h hE
      go_wp2_with fail
      refine ret_agg rfl rfl (cs := matA f p 1) ?_ Try.underlying117 rfl (by kernel_rfl) rfl ?_
      rotate_left
      · exact ⟨rfl, by (repeat (first | with_reducible (exact Since.refl _) | with_reducible assumption | with_reducible (refine Since.drew ?_) | with_reducible (refine Since.drewN ?_ _) | with_reducible (refine Since.alloc ?_ _) | (with_reducible (refine Since.setCell ?_ ?_ _); rotate_left; focus (first | (simp; done) | (simp; omega) | omega)) | (with_reducible (refine Since.trans ?_ (by with_reducible assumption)))))⟩
      · intro j v hv
        rw [E.out] at hv
        have hj : j = 0 ∨ j = 1 ∨ j = 2 ∨ j = 3 := by
          have : j < 4 := by
            rcases Nat.lt_or_ge j 4 with h | h
            · exact h
            · rw [List.getElem?_eq_none (by simpa using h)] at hv; cases hv
          omega
        rcases hj with rfl | rfl | rfl | rfl <;> (simp at hv; subst hv; simp [go_sem, z0, z1, z2, z3])

set_option maxRecDepth 100000 in
set_option maxHeartbeats 4000000 in
theorem co_rmat2 (A : Option Addr) (n c : Nat) (f : Nat → Int) (p : Nat) (x : Int) (w : World) (h : Rd w w.heap.size A n (U8 f)) (hf : ∀ j, j < n → 0 ≤ f j ∧ f j ≤ 255) (hx : x = p) (hp : p + 2 * 2 ≤ n) (hn : n ≤ 140737488355328) :
    Calls Try.prog 110 #[.slice A n c, .int .i64 x, .int .i64 2] w fun e w' => e = .returned (.agg (matA f p 2).toArray) ∧ Since w w' := by
  have hpn : (p : Int) ≤ 140737488355328 := by omega
  have HF := Lib.hid hf
  clear hf
  go_enter Try.func110, Try.ntmps110
  go_wp2_with fail
  go_loopw [10] (fun y wr => ∃ j : Nat, j ≤ 2 ∧ y = .int .i64 (j : Int) ∧ Since w wr ∧ Row wr w.heap.size 4 (fun _ => .int .i64 0) ∧ Row wr (w.heap.size + 1) 4 (mtF f p j)) (fun y _ => 2 - (intOf y).toNat)
  case atStart =>
    refine ⟨0, by omega, rfl, by (repeat (first | with_reducible (exact Since.refl _) | with_reducible assumption | with_reducible (refine Since.drew ?_) | with_reducible (refine Since.drewN ?_ _) | with_reducible (refine Since.alloc ?_ _) | (with_reducible (refine Since.setCell ?_ ?_ _); rotate_left; focus (first | (simp; done) | (simp; omega) | omega)) | (with_reducible (refine Since.trans ?_ (by with_reducible assumption))))), ?_, ?_⟩
    · exact (zero4 w _ rfl _).alloc _
    · exact (zero4 (w.alloc _) _ (by simp) _)
  case round =>
    obtain ⟨j, hj, rfl, hS, hR0, hR⟩ := hrel
    by_cases hjm : j < 2
    · first
      | exact absurd hjm (by omega)
      | have hjm' : (j : Int) < 2 := by omega
        have hcell := hR.1 j (by omega)
        have hfr := hR.2.1 j
        have hlt := hR.2.2
        have hC := s_in A n c f (p + 2 * j) 2 (x + 2 * (j : Int)) 2 wr (h.on hS) HF.out (by omega) rfl (by omega) (by omega) hn
        have e0 : sgn 2 (numAt f (p + 2 * j) 2) = s2 f (p + 2 * j) := rfl
        rw [e0] at hC
        generalize hv : s2 f (p + 2 * j) = v at *
        have HV := Lib.hid hv
        clear hv e0 h hp
        subst hx
        go_wp2_with (go_at_call 72; (with_reducible refine hC.mono ?_); rintro e w2 ⟨rfl, rfl⟩)
        go_roundw
        case rel =>
          refine ⟨j + 1, by omega, by go_num, by (repeat (first | with_reducible (exact Since.refl _) | with_reducible assumption | with_reducible (refine Since.drew ?_) | with_reducible (refine Since.drewN ?_ _) | with_reducible (refine Since.alloc ?_ _) | (with_reducible (refine Since.setCell ?_ ?_ _); rotate_left; focus (first | (simp; done) | (simp; omega) | omega)) | (with_reducible (refine Since.trans ?_ (by with_reducible assumption))))), hR0.far (by omega) _ _, (hR.set j _).congr (fun t ht => ?_)⟩
          rw [← HV.out]
          exact mtF_next f p j t
        case measure => simp [intOf]; omega
    · obtain rfl : j = 2 := by omega
      obtain ⟨c0, c1, c2, c3, hlt⟩ := row4 hR
      obtain ⟨z0, z1, z2, z3, hlt0⟩ := row4 hR0
      have f0 := hR0.2.1 0
      have f1 := hR0.2.1 1
      have f2 := hR0.2.1 2
      have f3 := hR0.2.1 3
      have e0 : mtF f p 2 0 = .int .i64 (if 0 < 2 then s2 f p else 0) := rfl
      have e1 : mtF f p 2 1 = .int .i64 (if 1 < 2 then s2 f (p + 2) else 0) := rfl
      have e2 : mtF f p 2 2 = .int .i64 (if 2 < 2 then s2 f (p + 4) else 0) := rfl
      have e3 : mtF f p 2 3 = .int .i64 (if 3 < 2 then s2 f (p + 6) else 0) := rfl
      rw [e0] at c0
      rw [e1] at c1
      rw [e2] at c2
      rw [e3] at c3
      have hE := (show matA f p 2 = [.int .i64 (if 2 = 0 then 16384 else s2 f p), .int .i64 (if 2 = 4 then s2 f (p + 2) else 0), .int .i64 (if 2 = 4 then s2 f (p + 4) else 0),
  .int .i64 (if 2 = 0 then 16384 else if 2 = 1 then s2 f p else if 2 = 2 then s2 f (p + 2) else s2 f (p + 6))] from rfl)
      generalize s2 f p = v0 at *
      generalize s2 f (p + 2) = v1 at *
      generalize s2 f (p + 4) = v2 at *
      generalize s2 f (p + 6) = v3 at *
      simp at c0 c1 c2 c3 hE
      have E := Lib.hid hE
      clear e0 e1 e2 e3 h hE
      go_wp2_with fail
      refine ret_agg rfl rfl (cs := matA f p 2) ?_ Try.underlying117 rfl (by kernel_rfl) rfl ?_
      rotate_left
      · exact ⟨rfl, by (repeat (first | with_reducible (exact Since.refl _) | with_reducible assumption | with_reducible (refine Since.drew ?_) | with_reducible (refine Since.drewN ?_ _) | with_reducible (refine Since.alloc ?_ _) | (with_reducible (refine Since.setCell ?_ ?_ _); rotate_left; focus (first | (simp; done) | (simp; omega) | omega)) | (with_reducible (refine Since.trans ?_ (by with_reducible assumption)))))⟩
      · intro j v hv
        rw [E.out] at hv
        have hj : j = 0 ∨ j = 1 ∨ j = 2 ∨ j = 3 := by
          have : j < 4 := by
            rcases Nat.lt_or_ge j 4 with h | h
            · exact h
            · rw [List.getElem?_eq_none (by simpa using h)] at hv; cases hv
          omega
        rcases hj with rfl | rfl | rfl | rfl <;> (simp at hv; subst hv; simp [go_sem, z0, z1, z2, z3])

set_option maxRecDepth 100000 in
set_option maxHeartbeats 4000000 in
theorem co_rmat4 (A : Option Addr) (n c : Nat) (f : Nat → Int) (p : Nat) (x : Int) (w : World) (h : Rd w w.heap.size A n (U8 f)) (hf : ∀ j, j < n → 0 ≤ f j ∧ f j ≤ 255) (hx : x = p) (hp : p + 2 * 4 ≤ n) (hn : n ≤ 140737488355328) :
    Calls Try.prog 110 #[.slice A n c, .int .i64 x, .int .i64 4] w fun e w' => e = .returned (.agg (matA f p 4).toArray) ∧ Since w w' := by
  have hpn : (p : Int) ≤ 140737488355328 := by omega
  have HF := Lib.hid hf
  clear hf
  go_enter Try.func110, Try.ntmps110
  go_wp2_with fail
  go_loopw [10] (fun y wr => ∃ j : Nat, j ≤ 4 ∧ y = .int .i64 (j : Int) ∧ Since w wr ∧ Row wr w.heap.size 4 (fun _ => .int .i64 0) ∧ Row wr (w.heap.size + 1) 4 (mtF f p j)) (fun y _ => 4 - (intOf y).toNat)
  case atStart =>
    refine ⟨0, by omega, rfl, by (repeat (first | with_reducible (exact Since.refl _) | with_reducible assumption | with_reducible (refine Since.drew ?_) | with_reducible (refine Since.drewN ?_ _) | with_reducible (refine Since.alloc ?_ _) | (with_reducible (refine Since.setCell ?_ ?_ _); rotate_left; focus (first | (simp; done) | (simp; omega) | omega)) | (with_reducible (refine Since.trans ?_ (by with_reducible assumption))))), ?_, ?_⟩
    · exact (zero4 w _ rfl _).alloc _
    · exact (zero4 (w.alloc _) _ (by simp) _)
  case round =>
    obtain ⟨j, hj, rfl, hS, hR0, hR⟩ := hrel
    by_cases hjm : j < 4
    · first
      | exact absurd hjm (by omega)
      | have hjm' : (j : Int) < 4 := by omega
        have hcell := hR.1 j (by omega)
        have hfr := hR.2.1 j
        have hlt := hR.2.2
        have hC := s_in A n c f (p + 2 * j) 2 (x + 2 * (j : Int)) 2 wr (h.on hS) HF.out (by omega) rfl (by omega) (by omega) hn
        have e0 : sgn 2 (numAt f (p + 2 * j) 2) = s2 f (p + 2 * j) := rfl
        rw [e0] at hC
        generalize hv : s2 f (p + 2 * j) = v at *
        have HV := Lib.hid hv
        clear hv e0 h hp
        subst hx
        go_wp2_with (go_at_call 72; (with_reducible refine hC.mono ?_); rintro e w2 ⟨rfl, rfl⟩)
        go_roundw
        case rel =>
          refine ⟨j + 1, by omega, by go_num, by (repeat (first | with_reducible (exact Since.refl _) | with_reducible assumption | with_reducible (refine Since.drew ?_) | with_reducible (refine Since.drewN ?_ _) | with_reducible (refine Since.alloc ?_ _) | (with_reducible (refine Since.setCell ?_ ?_ _); rotate_left; focus (first | (simp; done) | (simp; omega) | omega)) | (with_reducible (refine Since.trans ?_ (by with_reducible assumption))))), hR0.far (by omega) _ _, (hR.set j _).congr (fun t ht => ?_)⟩
          rw [← HV.out]
          exact mtF_next f p j t
        case measure => simp [intOf]; omega
    · obtain rfl : j = 4 := by omega
      obtain ⟨c0, c1, c2, c3, hlt⟩ := row4 hR
      obtain ⟨z0, z1, z2, z3, hlt0⟩ := row4 hR0
      have f0 := hR0.2.1 0
      have f1 := hR0.2.1 1
      have f2 := hR0.2.1 2
      have f3 := hR0.2.1 3
      have e0 : mtF f p 4 0 = .int .i64 (if 0 < 4 then s2 f p else 0) := rfl
      have e1 : mtF f p 4 1 = .int .i64 (if 1 < 4 then s2 f (p + 2) else 0) := rfl
      have e2 : mtF f p 4 2 = .int .i64 (if 2 < 4 then s2 f (p + 4) else 0) := rfl
      have e3 : mtF f p 4 3 = .int .i64 (if 3 < 4 then s2 f (p + 6) else 0) := rfl
      rw [e0] at c0
      rw [e1] at c1
      rw [e2] at c2
      rw [e3] at c3
      have hE := (show matA f p 4 = [.int .i64 (if 4 = 0 then 16384 else s2 f p), .int .i64 (if 4 = 4 then s2 f (p + 2) else 0), .int .i64 (if 4 = 4 then s2 f (p + 4) else 0),
  .int .i64 (if 4 = 0 then 16384 else if 4 = 1 then s2 f p else if 4 = 2 then s2 f (p + 2) else s2 f (p + 6))] from rfl)
      generalize s2 f p = v0 at *
      generalize s2 f (p + 2) = v1 at *
      generalize s2 f (p + 4) = v2 at *
      generalize s2 f (p + 6) = v3 at *
      simp at c0 c1 c2 c3 hE
      have E := Lib.hid hE
      clear e0 e1 e2 e3 h hE
      go_wp2_with fail
      refine ret_agg rfl rfl (cs := matA f p 4) ?_ Try.underlying117 rfl (by kernel_rfl) rfl ?_
      rotate_left
      · exact ⟨rfl, by (repeat (first | with_reducible (exact Since.refl _) | with_reducible assumption | with_reducible (refine Since.drew ?_) | with_reducible (refine Since.drewN ?_ _) | with_reducible (refine Since.alloc ?_ _) | (with_reducible (refine Since.setCell ?_ ?_ _); rotate_left; focus (first | (simp; done) | (simp; omega) | omega)) | (with_reducible (refine Since.trans ?_ (by with_reducible assumption)))))⟩
      · intro j v hv
        rw [E.out] at hv
        have hj : j = 0 ∨ j = 1 ∨ j = 2 ∨ j = 3 := by
          have : j < 4 := by
            rcases Nat.lt_or_ge j 4 with h | h
            · exact h
            · rw [List.getElem?_eq_none (by simpa using h)] at hv; cases hv
          omega
        rcases hj with rfl | rfl | rfl | rfl <;> (simp at hv; subst hv; simp [go_sem, z0, z1, z2, z3])

end Go.Proofs.Ytpplnapfpoloiaa
