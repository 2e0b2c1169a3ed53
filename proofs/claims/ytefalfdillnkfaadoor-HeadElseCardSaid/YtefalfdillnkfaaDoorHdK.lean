/-
  Layer 5: the laws HeadReads, HeadMaxps, walked.
-/
import Derived.Test.YtefalfdillnkfaaDoorHdJ
import Derived.Test.YtefalfdillnkfaaDoorHdH
import Derived.Test.YtefalfdillnkfaaDoorHdI
import Derived.Laws.StructEq
namespace Go.Proofs.YtefalfdillnkfaaDoor
open Go.RowKit
set_option linter.unusedVariables false

theorem eq_hd (w : World) (a b c d e : Int) (l : Bool) : (Op.equalIn 10000 26 (.agg #[.int .i64 a, .int .i64 b, .int .i64 c, .int .i64 d, .int .i64 e, .bool l]) (.agg #[.int .i64 a, .int .i64 b, .int .i64 c, .int .i64 d, .int .i64 e, .bool l])).run Tryd.prog w = .ok true w := by
  rw [run_equalIn_struct w 9999 26 _ _ (by kernel_rfl) (by kernel_rfl)]
  have heq : ∀ (d : Nat) (a b : Int) (w : World), (Op.equalIn (d + 1) 3 (.int .i64 a) (.int .i64 b)).run Tryd.prog w = .ok (a == b) w := fun d a b w => run_equalIn_int w d _ _ _ a b Tryd.underlying3
  have heqb : ∀ (d : Nat) (a b : Bool) (w : World), (Op.equalIn (d + 1) 4 (.bool a) (.bool b)).run Tryd.prog w = .ok (a == b) w := fun d a b w => by simp [Op.equalIn, run_underlying Tryd.underlying4]
  have hc : Tryd.prog.cellsOf 3 = 1 := by kernel_rfl
  have hcb : Tryd.prog.cellsOf 4 = 1 := by kernel_rfl
  simp only [Program.fieldsOf, Tryd.underlying26]
  simp [go_sem]
theorem eq_mx (w : World) (a b c d e g i : Int) : (Op.equalIn 10000 31 (.agg #[.int .i64 a, .int .i64 b, .int .i64 c, .int .i64 d, .int .i64 e, .int .i64 g, .int .i64 i]) (.agg #[.int .i64 a, .int .i64 b, .int .i64 c, .int .i64 d, .int .i64 e, .int .i64 g, .int .i64 i])).run Tryd.prog w = .ok true w := by
  rw [run_equalIn_struct w 9999 31 _ _ (by kernel_rfl) (by kernel_rfl)]
  have heq : ∀ (d : Nat) (a b : Int) (w : World), (Op.equalIn (d + 1) 3 (.int .i64 a) (.int .i64 b)).run Tryd.prog w = .ok (a == b) w := fun d a b w => run_equalIn_int w d _ _ _ a b Tryd.underlying3
  have hc : Tryd.prog.cellsOf 3 = 1 := by kernel_rfl
  simp only [Program.fieldsOf, Tryd.underlying31]
  simp [go_sem]
attribute [go_sem] eq_hd eq_mx
theorem mbox_at (w : World) (v0 v1 v2 v3 v4 v5 v6 : Value) (t : TypeId) (j : Nat) (v : Value) (h : #[v0, v1, v2, v3, v4, v5, v6][j]? = some v) : (w.alloc (.cells #[v0, v1, v2, v3, v4, v5, v6] t)).cell? ⟨w.heap.size, j, none⟩ = some v := sbox_at w _ rfl v0 v1 v2 v3 v4 v5 v6 t j v h
def SixB (w : World) (b : Nat) (v0 v1 v2 v3 v4 v5 : Value) : Prop := b < w.heap.size ∧ w.cell? ⟨b, 0, none⟩ = some v0 ∧ w.cell? ⟨b, 1, none⟩ = some v1 ∧ w.cell? ⟨b, 2, none⟩ = some v2 ∧ w.cell? ⟨b, 3, none⟩ = some v3 ∧ w.cell? ⟨b, 4, none⟩ = some v4 ∧ w.cell? ⟨b, 5, none⟩ = some v5
theorem sixb_new (w : World) (v0 v1 v2 v3 v4 v5 : Value) (t : TypeId) : SixB (w.alloc (.cells #[v0, v1, v2, v3, v4, v5] t)) w.heap.size v0 v1 v2 v3 v4 v5 := ⟨by simp, hbox_at w _ _ _ _ _ _ t 0 _ rfl, hbox_at w _ _ _ _ _ _ t 1 _ rfl, hbox_at w _ _ _ _ _ _ t 2 _ rfl, hbox_at w _ _ _ _ _ _ t 3 _ rfl, hbox_at w _ _ _ _ _ _ t 4 _ rfl, hbox_at w _ _ _ _ _ _ t 5 _ rfl⟩
theorem SixB.since {w w' : World} {b : Nat} {v0 v1 v2 v3 v4 v5 : Value} (h : SixB w b v0 v1 v2 v3 v4 v5) (k : Since w w') : SixB w' b v0 v1 v2 v3 v4 v5 := by
  obtain ⟨h0, h1, h2, h3, h4, h5, h6⟩ := h
  exact ⟨k.2.2.1 _ h0, (k.1 _ _ h0).trans h1, (k.1 _ _ h0).trans h2, (k.1 _ _ h0).trans h3, (k.1 _ _ h0).trans h4, (k.1 _ _ h0).trans h5, (k.1 _ _ h0).trans h6⟩
def SevenB (w : World) (b : Nat) (v0 v1 v2 v3 v4 v5 v6 : Value) : Prop := b < w.heap.size ∧ w.cell? ⟨b, 0, none⟩ = some v0 ∧ w.cell? ⟨b, 1, none⟩ = some v1 ∧ w.cell? ⟨b, 2, none⟩ = some v2 ∧ w.cell? ⟨b, 3, none⟩ = some v3 ∧ w.cell? ⟨b, 4, none⟩ = some v4 ∧ w.cell? ⟨b, 5, none⟩ = some v5 ∧ w.cell? ⟨b, 6, none⟩ = some v6
theorem sevenb_new (w : World) (v0 v1 v2 v3 v4 v5 v6 : Value) (t : TypeId) : SevenB (w.alloc (.cells #[v0, v1, v2, v3, v4, v5, v6] t)) w.heap.size v0 v1 v2 v3 v4 v5 v6 := ⟨by simp, mbox_at w _ _ _ _ _ _ _ t 0 _ rfl, mbox_at w _ _ _ _ _ _ _ t 1 _ rfl, mbox_at w _ _ _ _ _ _ _ t 2 _ rfl, mbox_at w _ _ _ _ _ _ _ t 3 _ rfl, mbox_at w _ _ _ _ _ _ _ t 4 _ rfl, mbox_at w _ _ _ _ _ _ _ t 5 _ rfl, mbox_at w _ _ _ _ _ _ _ t 6 _ rfl⟩
theorem SevenB.since {w w' : World} {b : Nat} {v0 v1 v2 v3 v4 v5 v6 : Value} (h : SevenB w b v0 v1 v2 v3 v4 v5 v6) (k : Since w w') : SevenB w' b v0 v1 v2 v3 v4 v5 v6 := by
  obtain ⟨h0, h1, h2, h3, h4, h5, h6, h7⟩ := h
  exact ⟨k.2.2.1 _ h0, (k.1 _ _ h0).trans h1, (k.1 _ _ h0).trans h2, (k.1 _ _ h0).trans h3, (k.1 _ _ h0).trans h4, (k.1 _ _ h0).trans h5, (k.1 _ _ h0).trans h6, (k.1 _ _ h0).trans h7⟩

set_option maxRecDepth 100000 in
set_option maxHeartbeats 8000000 in
theorem walk_headreads (A : Option Addr) (n c : Nat) (f : Nat → Int) (w : World) (hT : Tabs w) (h : Rd w w.heap.size A n (U8 f)) (hf : ∀ j, j < n → 0 ≤ f j ∧ f j ≤ 255) (hn : n ≤ 140737488351232) :
    Calls Tryd.prog 3 #[.slice A n c] w fun e w' => e = .returned (.bool true) ∧ Since w w' := by
  have hHd : ∀ (A1 : Option Addr) (c1 : Nat) (w1 : World), TabB w1 → Rd w1 w1.heap.size A1 n (U8 f) → Calls Tryd.prog 10 #[.slice A1 n c1] w1 fun e w' => e = .returned (.tuple #[.agg #[.int .i64 (hdM f n), .int .i64 (hdS f n 36), .int .i64 (hdS f n 38), .int .i64 (hdS f n 40), .int .i64 (hdS f n 42), .bool (hdL f n)], .int .i64 (hdE f n)]) ∧ Since w1 w' := fun A1 c1 w1 hT hR => hd_head A1 n c1 f w1 hT hR hf (by omega)
  have hHr : ∀ (A1 : Option Addr) (c1 : Nat) (w1 : World), Rd w1 w1.heap.size A1 n (U8 f) → Calls Tryd.prog 13 #[.slice A1 n c1] w1 fun e w' => e = .returned (.tuple #[.agg #[.int .i64 (hdM f n), .int .i64 (hdS f n 36), .int .i64 (hdS f n 38), .int .i64 (hdS f n 40), .int .i64 (hdS f n 42), .bool (hdL f n)], .int .i64 (hdE f n)]) ∧ Since w1 w' := fun A1 c1 w1 hR => rf_head A1 n c1 f w1 hR hf (by omega)
  have hMd : ∀ (A1 : Option Addr) (c1 : Nat) (w1 : World), Tabs w1 → Rd w1 w1.heap.size A1 n (U8 f) → Calls Tryd.prog 11 #[.slice A1 n c1] w1 fun e w' => e = .returned (.tuple #[.agg #[.int .i64 (mxN f n 4), .int .i64 (mxN f n 6), .int .i64 (mxN f n 8), .int .i64 (mxN f n 10), .int .i64 (mxN f n 12), .int .i64 (mxN f n 28), .int .i64 (mxN f n 30)], .int .i64 (mxE f n)]) ∧ Since w1 w' := fun A1 c1 w1 hT hR => hd_maxp A1 n c1 f w1 hT hR hf (by omega)
  have hMr : ∀ (A1 : Option Addr) (c1 : Nat) (w1 : World), Rd w1 w1.heap.size A1 n (U8 f) → Calls Tryd.prog 14 #[.slice A1 n c1] w1 fun e w' => e = .returned (.tuple #[.agg #[.int .i64 (mxN f n 4), .int .i64 (mxN f n 6), .int .i64 (mxN f n 8), .int .i64 (mxN f n 10), .int .i64 (mxN f n 12), .int .i64 (mxN f n 28), .int .i64 (mxN f n 30)], .int .i64 (mxE f n)]) ∧ Since w1 w' := fun A1 c1 w1 hR => rf_maxp A1 n c1 f w1 hR hf (by omega)
  have hCd := fun A1 c1 w1 hR => hd_count A1 n c1 f w1 hR hf (by omega)
  have hCr := fun A1 c1 w1 hR => rf_count A1 n c1 f w1 hR hf (by omega)
  generalize hdM f n = x1 at *
  generalize hdS f n 36 = x2 at *
  generalize hdS f n 38 = x3 at *
  generalize hdS f n 40 = x4 at *
  generalize hdS f n 42 = x5 at *
  generalize hdL f n = x6 at *
  generalize hdE f n = x7 at *
  generalize mxN f n 4 = y1 at *
  generalize mxN f n 6 = y2 at *
  generalize mxN f n 8 = y3 at *
  generalize mxN f n 10 = y4 at *
  generalize mxN f n 12 = y5 at *
  generalize mxN f n 28 = y6 at *
  generalize mxN f n 30 = y7 at *
  generalize mxE f n = y8 at *
  generalize ctN f n = z1 at *
  generalize ctE f n = z2 at *
  have HHd := Lib.hid hHd; have HHr := Lib.hid hHr; have HMd := Lib.hid hMd; have HMr := Lib.hid hMr; have HCd := Lib.hid hCd; have HCr := Lib.hid hCr
  have HT := Lib.hid hT
  clear hHd hHr hMd hMr hCd hCr hT
  go_enter Tryd.func3, Tryd.ntmps3
  go_wp2_with (first | (go_at_call 8; refine (alive05 _ (HT.out.since (by (repeat (first | with_reducible (exact Since.refl _) | with_reducible assumption | with_reducible (refine Since.drew ?_) | with_reducible (refine Since.drewN ?_ _) | with_reducible (refine Since.alloc ?_ _) | (with_reducible (refine Since.setCell ?_ ?_ _); rotate_left; focus (first | (simp; done) | (simp; omega) | omega)) | (with_reducible (refine Since.trans ?_ (by with_reducible assumption))))))).b).mono ?_; rintro e w1 ⟨rfl, hS1⟩; have h1 := h.on hS1; have hT1 : Since w w1 := hS1) | (go_at_call 9; refine (ref_copy A n c f _ h1 (by omega)).mono ?_; rintro e w2 ⟨g2, cap, rfl, hown, hS2⟩; have h2 := h1.on hS2; have hI2 := Rd.of_row hown.row; have hT2 := hT1.trans hS2; clear hown hS1 hS2 h1 hT1) | (go_at_call 10; (with_reducible refine (HHd.out _ _ _ (HT.out.since hT2).b hI2).mono ?_); rintro e w3 ⟨rfl, hS3⟩; have hA3 := sixb_new w3 (.int .i64 x1) (.int .i64 x2) (.int .i64 x3) (.int .i64 x4) (.int .i64 x5) (.bool x6) 26; have hT3 := (hT2.trans hS3).alloc (.cells #[.int .i64 x1, .int .i64 x2, .int .i64 x3, .int .i64 x4, .int .i64 x5, .bool x6] 26); have h3 := h.on hT3; have hI3 := hI2.on (hS3.alloc (.cells #[.int .i64 x1, .int .i64 x2, .int .i64 x3, .int .i64 x4, .int .i64 x5, .bool x6] 26)); clear hT2 h2 hI2 hS3) | (go_at_call 11; (with_reducible refine (HMd.out _ _ _ (HT.out.since hT3) hI3).mono ?_); rintro e w4 ⟨rfl, hS4⟩; have hA4 := hA3.since (hS4.alloc (.cells #[.int .i64 y1, .int .i64 y2, .int .i64 y3, .int .i64 y4, .int .i64 y5, .int .i64 y6, .int .i64 y7] 31)); have hB4 := sevenb_new w4 (.int .i64 y1) (.int .i64 y2) (.int .i64 y3) (.int .i64 y4) (.int .i64 y5) (.int .i64 y6) (.int .i64 y7) 31; have hT4 := (hT3.trans hS4).alloc (.cells #[.int .i64 y1, .int .i64 y2, .int .i64 y3, .int .i64 y4, .int .i64 y5, .int .i64 y6, .int .i64 y7] 31); have h4 := h.on hT4; have hI4 := hI3.on (hS4.alloc (.cells #[.int .i64 y1, .int .i64 y2, .int .i64 y3, .int .i64 y4, .int .i64 y5, .int .i64 y6, .int .i64 y7] 31)); clear hT3 h3 hI3 hS4 hA3) | (go_at_call 12; (with_reducible refine (HCd.out _ _ _ hI4).mono ?_); rintro e w5 ⟨rfl, hS5⟩; have hA5 := hA4.since hS5; have hB5 := hB4.since hS5; have hT5 := hT4.trans hS5; have h5 := h.on hT5; have hI5 := hI4.on hS5; clear hT4 h4 hI4 hS5 hA4 hB4) | (go_at_call 13; (with_reducible refine (HHr.out _ _ _ h5).mono ?_); rintro e w6 ⟨rfl, hS6⟩; have hs6 := hS6.alloc (.cells #[.int .i64 x1, .int .i64 x2, .int .i64 x3, .int .i64 x4, .int .i64 x5, .bool x6] 26); have hA6 := hA5.since hs6; have hB6 := hB5.since hs6; have hC6 := sixb_new w6 (.int .i64 x1) (.int .i64 x2) (.int .i64 x3) (.int .i64 x4) (.int .i64 x5) (.bool x6) 26; have hT6 := hT5.trans hs6; have h6 := h.on hT6; have hI6 := hI5.on hs6; clear hT5 h5 hI5 hS6 hs6 hA5 hB5) | (go_at_call 14; (with_reducible refine (HMr.out _ _ _ h6).mono ?_); rintro e w7 ⟨rfl, hS7⟩; have hs7 := hS7.alloc (.cells #[.int .i64 y1, .int .i64 y2, .int .i64 y3, .int .i64 y4, .int .i64 y5, .int .i64 y6, .int .i64 y7] 31); have hA7 := hA6.since hs7; have hB7 := hB6.since hs7; have hC7 := hC6.since hs7; have hD7 := sevenb_new w7 (.int .i64 y1) (.int .i64 y2) (.int .i64 y3) (.int .i64 y4) (.int .i64 y5) (.int .i64 y6) (.int .i64 y7) 31; have hT7 := hT6.trans hs7; have h7 := h.on hT7; have hI7 := hI6.on hs7; clear hT6 h6 hI6 hS7 hs7 hA6 hB6 hC6) | (go_at_call 15; (with_reducible refine (HCr.out _ _ _ h7).mono ?_); rintro e w8 ⟨rfl, hS8⟩; have hA8 := hA7.since hS8; have hB8 := hB7.since hS8; have hC8 := hC7.since hS8; have hD8 := hD7.since hS8; have hT8 := hT7.trans hS8; have h8 := h.on hT8; have hI8 := hI7.on hS8; clear hT7 h7 hI7 hS8 hA7 hB7 hC7 hD7; obtain ⟨a0, a1, a2, a3, a4, a5, a6⟩ := hA8; obtain ⟨b0, b1, b2, b3, b4, b5, b6, b7⟩ := hB8; obtain ⟨c0, c1, c2, c3, c4, c5, c6⟩ := hC8; obtain ⟨d0, d1, d2, d3, d4, d5, d6, d7⟩ := hD8) | (go_at_call 16; refine (ref_same _ _ n _ _ f f _ hI8 h8 (fun _ _ => rfl)).mono ?_; rintro e w9 ⟨rfl, rfl⟩))
  go_ret
  exact ⟨by first | rfl | simp, hT8⟩
end Go.Proofs.YtefalfdillnkfaaDoor
