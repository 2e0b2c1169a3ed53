/-
  Texts of this seat, put together: each with its own head.
-/
import Derived.Test.YteckkcpnfeoehaaGreatDoorMnAd
import Derived.Test.YteckkcpnfeoehaaGreatDoorMnAc
import Derived.Test.YteckkcpnfeoehaaGreatDoorMnAb

/-
  Layer 8: what a composite glyph's bytes are, as lists of numbers; what any bytes read as; and that what is written is read. No walk.
-/
namespace Go.Proofs.YteckkcpnfeoehaaGreatDoor
set_option maxRecDepth 100000
open Go.RowKit
set_option linter.unusedVariables false

def putL (x : Int) (m : Nat) : List Int := (List.range m).map (byteOf x m)
theorem putL_len (x : Int) (m : Nat) : (putL x m).length = m := by simp [putL]
/-- Bytes from a place on are those of a list. -/
def AtL (f : Nat → Int) (p : Nat) (L : List Int) : Prop := ∀ j, j < L.length → f (p + j) = L.getD j 0
theorem AtL.left {f : Nat → Int} {p : Nat} {A B : List Int} (h : AtL f p (A ++ B)) : AtL f p A := fun j hj => by
  rw [h j (by simp; omega), List.getD_eq_getElem?_getD, List.getElem?_append_left hj, List.getD_eq_getElem?_getD]
theorem AtL.right {f : Nat → Int} {p : Nat} {A B : List Int} (h : AtL f p (A ++ B)) : AtL f (p + A.length) B := fun j hj => by
  rw [Nat.add_assoc, h (A.length + j) (by simp; omega), List.getD_eq_getElem?_getD, List.getElem?_append_right (by omega), Nat.add_sub_cancel_left, List.getD_eq_getElem?_getD]
theorem AtL.app {f : Nat → Int} {p q : Nat} {A B : List Int} (h : AtL f p (A ++ B)) (hq : q = p + A.length) : AtL f p A ∧ AtL f q B := by subst hq; exact ⟨h.left, h.right⟩
def Sh (v : Int) : Prop := -32768 ≤ v ∧ v ≤ 32767
instance (v : Int) : Decidable (Sh v) := by unfold Sh; infer_instance
/-- A part: a glyph's number, where it is moved to, and its four numbers. -/
structure Pt8 where
  (g x y m0 m1 m2 m3 : Int)
deriving DecidableEq
def P8Ok (p : Pt8) : Prop := (0 ≤ p.g ∧ p.g ≤ 65535) ∧ Sh p.x ∧ Sh p.y ∧ Sh p.m0 ∧ Sh p.m1 ∧ Sh p.m2 ∧ Sh p.m3
instance (p : Pt8) : Decidable (P8Ok p) := by unfold P8Ok; infer_instance
def Wide8 (p : Pt8) : Prop := p.x < -128 ∨ 127 < p.x ∨ p.y < -128 ∨ 127 < p.y
instance (p : Pt8) : Decidable (Wide8 p) := by unfold Wide8; infer_instance
def nums8 (l : List Int) : List Int := l.flatMap (fun x => putL x 2)
def Has8 (fl b : Int) : Prop := fl / b % 2 = 1
instance (fl b : Int) : Decidable (Has8 fl b) := by unfold Has8; infer_instance
def s2 (f : Nat → Int) (p : Nat) : Int := sgn 2 (numAt f p 2)
theorem nums8_len (l : List Int) : (nums8 l).length = 2 * l.length := by
  induction l with
  | nil => rfl
  | cons a l ih => simp only [nums8, List.flatMap_cons, List.length_append, List.length_cons, putL_len] at ih ⊢; omega
end Go.Proofs.YteckkcpnfeoehaaGreatDoor

/-
  Layer 2: 'Put', walked again: the block that it answers, whole.
-/
namespace Go.Proofs.YteckkcpnfeoehaaGreatDoor
set_option maxRecDepth 100000
open Go.RowKit
set_option linter.unusedVariables false
theorem All.set {w : World} {g n i : Nat} {e : TypeId} {V : Nat → Value} (h : All w g e n V) (hi : i < n) (v : Value) : All (w.setCell ⟨g, i, none⟩ v) g e n (fun j => if j = i then v else V j) := by
  unfold All at h ⊢
  have hl : i < (tab n V).length := by rw [tab_len]; exact hi
  have e1 : ((tab n V).toArray.set! i v) = (tab n (fun j => if j = i then v else V j)).toArray := by
    apply Array.ext'
    rw [Array.set!_eq_setIfInBounds, Array.toList_setIfInBounds]
    apply List.ext_getElem?
    intro j
    rw [List.getElem?_set, tab_get, tab_get, tab_len]
    by_cases hj : i = j
    · subst hj; rw [if_pos rfl, if_pos hi, if_pos hi, if_pos rfl]
    · rw [if_neg hj, show (if j = i then v else V j) = V j from if_neg (fun x => hj x.symm)]
  rw [← e1]
  simp [World.setCell, Array.getElem?_modify, h]
set_option maxRecDepth 100000 in
set_option maxHeartbeats 4000000 in
theorem be_putA (n k : Int) (w : World) (hn : In64 n) (hk : In64 k) :
    Calls Tryz.prog 64 #[.int .i64 n, .int .i64 k] w fun e w' => ∃ g, e = .returned (.slice (some ⟨g, 0, none⟩) (clampW k) (clampW k)) ∧ w.heap.size ≤ g ∧ All w' g 5 (clampW k) (U8 (byteOf n (clampW k))) ∧ Since w w' := by
  obtain ⟨i0, hi0, hz0, hz1, hz2⟩ := info_parts Tryz.info_u8
  by_cases h1 : 0 ≤ k ∧ k ≤ 8
  · obtain ⟨m, rfl⟩ : ∃ m : Nat, k = m := ⟨k.toNat, by omega⟩
    obtain ⟨h1, h2⟩ := h1
    have hm : m ≤ 8 := by omega
    have hc : clampW m = m := by unfold clampW; rw [if_neg (by omega), if_neg (by omega)]; rfl
    rw [hc]
    have b1 : 1 * m ≤ 281474976710656 := by omega
    have b2 : m ≤ maxLen := by simp only [maxLen]; omega
    clear hc
    go_enter Tryz.func64, Tryz.ntmps64
    go_wp2_with (at_make; refine wpList_make_tab _ (by rfl) (.tmp 10) (.tmp 10) _ (by rfl) 5 i0 .u8 1 Tryz.underlying34 hi0 hz0 hz1 hz2 .i64 .i64 m (by rfl) (by rfl) b1 b2 ?_; intro w1 hown1 hS1)
    have hrow := All.of_own hown1
    clear hown1
    go_loopw [13] (fun y wr => ∃ j : Nat, j ≤ m ∧ y = .int .i64 j ∧ Since w wr ∧ All wr w.heap.size 5 m (U8 (fun q => if m ≤ q + j then byteOf n m q else 0))) (fun y _ => m - (intOf y).toNat)
    case atStart => exact ⟨0, by omega, rfl, hS1, hrow.congr (fun q hq => by simp only [U8, IntRow]; rw [if_neg (by omega)])⟩
    case round =>
      obtain ⟨j, hj, rfl, hSr, hR⟩ := hrel
      by_cases hjm : j < m
      · obtain ⟨q, hq⟩ : ∃ q : Nat, q + 1 + j = m := ⟨m - 1 - j, by omega⟩
        have hqi : (m : Int) - 1 - (j : Int) = (q : Int) := by omega
        have hqi' : (m : Int) - 1 = (q : Int) + j := by omega
        have hjm' : (j : Int) < m := by omega
        have hqm : (q : Int) < m := by omega
        have hcell := hR.row.1 q (by omega)
        have hfr := hR.row.2.1 q
        go_wp2
        refine ⟨⟨j + 1, by omega, by simp, hSr.setCell (Nat.le_refl _) _, (hR.set (i := q) (by omega) _).congr (fun t ht => ?_)⟩, by simp [intOf]; omega⟩
        by_cases hqt : t = q
        · subst hqt
          simp only [U8, IntRow]
          rw [if_pos trivial, if_pos (by omega), byteOf, show m - 1 - t = j by omega]
        · simp only [U8, IntRow]
          rw [if_neg hqt]
          by_cases ht2 : m ≤ t + j
          · rw [if_pos ht2, if_pos (by omega)]
          · rw [if_neg ht2, if_neg (by omega)]
      · obtain rfl : m = j := by omega
        have hR' := hR.congr (U := U8 (byteOf n m)) (fun q hq => by simp only [U8, IntRow]; rw [if_pos (by omega)])
        clear hR
        go_wp2
        go_ret
        exact ⟨_, rfl, Nat.le_refl _, hR', hSr⟩
  by_cases h2 : k < 0
  · have hc : clampW k = 0 := by unfold clampW; rw [if_pos (by omega)]
    rw [hc]
    have b1 : 1 * 0 ≤ 281474976710656 := by omega
    have b2 : 0 ≤ maxLen := by simp only [maxLen]; omega
    clear hc
    go_enter Tryz.func64, Tryz.ntmps64
    go_wp2_with (at_make; refine wpList_make_tab _ (by rfl) (.tmp 10) (.tmp 10) _ (by rfl) 5 i0 .u8 1 Tryz.underlying34 hi0 hz0 hz1 hz2 .i64 .i64 0 (by rfl) (by rfl) b1 b2 ?_; intro w1 hown1 hS1)
    have hrow := All.of_own hown1
    clear hown1
    go_loopw [13] (fun y wr => ∃ j : Nat, j ≤ 0 ∧ y = .int .i64 j ∧ Since w wr ∧ All wr w.heap.size 5 0 (U8 (fun q => if 0 ≤ q + j then byteOf n 0 q else 0))) (fun y _ => 0 - (intOf y).toNat)
    case atStart => exact ⟨0, by omega, rfl, hS1, hrow.congr (fun q hq => by simp only [U8, IntRow]; rw [if_neg (by omega)])⟩
    case round =>
      obtain ⟨j, hj, rfl, hSr, hR⟩ := hrel
      by_cases hjm : j < 0
      · exact absurd hjm (by omega)
      · obtain rfl : 0 = j := by omega
        have hR' := hR.congr (U := U8 (byteOf n 0)) (fun q hq => by simp only [U8, IntRow]; rw [if_pos (by omega)])
        clear hR
        go_wp2
        go_ret
        exact ⟨_, rfl, Nat.le_refl _, hR', hSr⟩
  · have h2' : 8 < k := by omega
    have hc : clampW k = 8 := by unfold clampW; rw [if_neg (by omega), if_pos (by omega)]
    rw [hc]
    have b1 : 1 * 8 ≤ 281474976710656 := by omega
    have b2 : 8 ≤ maxLen := by simp only [maxLen]; omega
    clear hc
    go_enter Tryz.func64, Tryz.ntmps64
    go_wp2_with (at_make; refine wpList_make_tab _ (by rfl) (.tmp 10) (.tmp 10) _ (by rfl) 5 i0 .u8 1 Tryz.underlying34 hi0 hz0 hz1 hz2 .i64 .i64 8 (by rfl) (by rfl) b1 b2 ?_; intro w1 hown1 hS1)
    have hrow := All.of_own hown1
    clear hown1
    go_loopw [13] (fun y wr => ∃ j : Nat, j ≤ 8 ∧ y = .int .i64 j ∧ Since w wr ∧ All wr w.heap.size 5 8 (U8 (fun q => if 8 ≤ q + j then byteOf n 8 q else 0))) (fun y _ => 8 - (intOf y).toNat)
    case atStart => exact ⟨0, by omega, rfl, hS1, hrow.congr (fun q hq => by simp only [U8, IntRow]; rw [if_neg (by omega)])⟩
    case round =>
      obtain ⟨j, hj, rfl, hSr, hR⟩ := hrel
      by_cases hjm : j < 8
      · obtain ⟨q, hq⟩ : ∃ q : Nat, q + 1 + j = 8 := ⟨8 - 1 - j, by omega⟩
        have hqi : (8 : Int) - 1 - (j : Int) = (q : Int) := by omega
        have hqi' : (8 : Int) - 1 = (q : Int) + j := by omega
        have hjm' : (j : Int) < 8 := by omega
        have hqm : (q : Int) < 8 := by omega
        have hcell := hR.row.1 q (by omega)
        have hfr := hR.row.2.1 q
        go_wp2
        refine ⟨⟨j + 1, by omega, by simp, hSr.setCell (Nat.le_refl _) _, (hR.set (i := q) (by omega) _).congr (fun t ht => ?_)⟩, by simp [intOf]; omega⟩
        by_cases hqt : t = q
        · subst hqt
          simp only [U8, IntRow]
          rw [if_pos trivial, if_pos (by omega), byteOf, show 8 - 1 - t = j by omega]
        · simp only [U8, IntRow]
          rw [if_neg hqt]
          by_cases ht2 : 8 ≤ t + j
          · rw [if_pos ht2, if_pos (by omega)]
          · rw [if_neg ht2, if_neg (by omega)]
      · obtain rfl : 8 = j := by omega
        have hR' := hR.congr (U := U8 (byteOf n 8)) (fun q hq => by simp only [U8, IntRow]; rw [if_pos (by omega)])
        clear hR
        go_wp2
        go_ret
        exact ⟨_, rfl, Nat.le_refl _, hR', hSr⟩
end Go.Proofs.YteckkcpnfeoehaaGreatDoor

/-
  Layer 2: 'Put', walked again: the block that it answers, whole.
-/
namespace Go.Proofs.YteckkcpnfeoehaaGreatDoor
set_option maxRecDepth 100000
open Go.RowKit
set_option linter.unusedVariables false
set_option maxRecDepth 100000 in
set_option maxHeartbeats 4000000 in
theorem ref_putA (n k : Int) (w : World) (hn : In64 n) (hk : In64 k) :
    Calls Tryz.prog 83 #[.int .i64 n, .int .i64 k] w fun e w' => ∃ g, e = .returned (.slice (some ⟨g, 0, none⟩) (clampW k) (clampW k)) ∧ w.heap.size ≤ g ∧ All w' g 5 (clampW k) (U8 (byteOf n (clampW k))) ∧ Since w w' := by
  obtain ⟨i0, hi0, hz0, hz1, hz2⟩ := info_parts Tryz.info_u8
  by_cases h1 : 1 ≤ k ∧ k ≤ 8
  · obtain ⟨m, rfl⟩ : ∃ m : Nat, k = m := ⟨k.toNat, by omega⟩
    obtain ⟨h1, h2⟩ := h1
    have hm : m ≤ 8 := by omega
    have hm0 : 0 < m := by omega
    have hc : clampW m = m := by unfold clampW; rw [if_neg (by omega), if_neg (by omega)]; rfl
    rw [hc]
    have b1 : 1 * m ≤ 281474976710656 := by omega
    have b2 : m ≤ maxLen := by simp only [maxLen]; omega
    clear hc
    go_enter Tryz.func83, Tryz.ntmps83
    go_wp2_with (at_make; refine wpList_make_tab _ (by rfl) (.tmp 12) (.tmp 12) _ (by rfl) 5 i0 .u8 1 Tryz.underlying34 hi0 hz0 hz1 hz2 .i64 .i64 m (by rfl) (by rfl) b1 b2 ?_; intro w1 hown1 hS1)
    have hrow := All.of_own hown1
    clear hown1
    go_loopw [7, 8] (fun x y wr => ∃ j : Nat, j ≤ m ∧ x = .int .u64 (at256 n j) ∧ y = .int .i64 ((m : Nat) - 1 - (j : Int)) ∧ Since w wr ∧ All wr w.heap.size 5 m (U8 (fun q => if m ≤ q + j then byteOf n m q else 0))) (fun _ y _ => (intOf y + 1).toNat)
    case atStart => exact ⟨0, by omega, by simp [at256, low64, IntKind.wrap_u64], by simp, hS1, hrow.congr (fun q hq => by simp only [U8, IntRow]; rw [if_neg (by omega)])⟩
    case round =>
      obtain ⟨j, hj, rfl, rfl, hSr, hR⟩ := hrel
      by_cases hjm : j < m
      · obtain ⟨q, hq⟩ : ∃ q : Nat, q + 1 + j = m := ⟨m - 1 - j, by omega⟩
        have hqi : ((m : Nat) : Int) - 1 - (j : Int) = (q : Int) := by omega
        have hqm : (q : Int) < m := by omega
        have hcell := hR.row.1 q (by omega)
        have hfr := hR.row.2.1 q
        have hx := at256_bd n j
        have hnx := at256_next n j
        have hby := at256_byte n hjm (by omega)
        rw [show m - 1 - j = q by omega] at hby
        rw [hqi]
        go_wp2
        rw [hnx]
        refine ⟨⟨j + 1, by omega, rfl, by congr 1 <;> omega, hSr.setCell (Nat.le_refl _) _, (hR.set (i := q) (by omega) _).congr (fun t ht => ?_)⟩, by simp [intOf] <;> omega⟩
        by_cases hqt : t = q
        · subst hqt
          simp only [U8, IntRow]
          rw [if_pos trivial, if_pos (by omega)]
        · simp only [U8, IntRow]
          rw [if_neg hqt]
          by_cases ht2 : m ≤ t + j
          · rw [if_pos ht2, if_pos (by omega)]
          · rw [if_neg ht2, if_neg (by omega)]
      · obtain rfl : m = j := by omega
        have hR' := hR.congr (U := U8 (byteOf n m)) (fun q hq => by simp only [U8, IntRow]; rw [if_pos (by omega)])
        clear hR
        go_wp2
        go_ret
        exact ⟨_, rfl, Nat.le_refl _, hR', hSr⟩
  by_cases h2 : k ≤ 0
  · have hc : clampW k = 0 := by unfold clampW; split <;> (try split) <;> omega
    rw [hc]
    have b1 : 1 * 0 ≤ 281474976710656 := by omega
    have b2 : 0 ≤ maxLen := by simp only [maxLen]; omega
    clear hc
    go_enter Tryz.func83, Tryz.ntmps83
    go_wp2_with (at_make; refine wpList_make_tab _ (by rfl) (.tmp 12) (.tmp 12) _ (by rfl) 5 i0 .u8 1 Tryz.underlying34 hi0 hz0 hz1 hz2 .i64 .i64 0 (by rfl) (by rfl) b1 b2 ?_; intro w1 hown1 hS1)
    have hrow := All.of_own hown1
    clear hown1
    go_loopw [7, 8] (fun x y wr => ∃ j : Nat, j ≤ 0 ∧ x = .int .u64 (at256 n j) ∧ y = .int .i64 ((0 : Nat) - 1 - (j : Int)) ∧ Since w wr ∧ All wr w.heap.size 5 0 (U8 (fun q => if 0 ≤ q + j then byteOf n 0 q else 0))) (fun _ y _ => (intOf y + 1).toNat)
    case atStart => exact ⟨0, by omega, by simp [at256, low64, IntKind.wrap_u64], by simp, hS1, hrow.congr (fun q hq => by simp only [U8, IntRow]; rw [if_neg (by omega)])⟩
    case round =>
      obtain ⟨j, hj, rfl, rfl, hSr, hR⟩ := hrel
      by_cases hjm : j < 0
      · exact absurd hjm (by omega)
      · obtain rfl : 0 = j := by omega
        have hR' := hR.congr (U := U8 (byteOf n 0)) (fun q hq => by simp only [U8, IntRow]; rw [if_pos (by omega)])
        clear hR
        go_wp2
        go_ret
        exact ⟨_, rfl, Nat.le_refl _, hR', hSr⟩
  · have h2' : 8 < k := by omega
    have hc : clampW k = 8 := by unfold clampW; rw [if_neg (by omega), if_pos (by omega)]
    rw [hc]
    have b1 : 1 * 8 ≤ 281474976710656 := by omega
    have b2 : 8 ≤ maxLen := by simp only [maxLen]; omega
    clear hc
    go_enter Tryz.func83, Tryz.ntmps83
    go_wp2_with (at_make; refine wpList_make_tab _ (by rfl) (.tmp 12) (.tmp 12) _ (by rfl) 5 i0 .u8 1 Tryz.underlying34 hi0 hz0 hz1 hz2 .i64 .i64 8 (by rfl) (by rfl) b1 b2 ?_; intro w1 hown1 hS1)
    have hrow := All.of_own hown1
    clear hown1
    go_loopw [7, 8] (fun x y wr => ∃ j : Nat, j ≤ 8 ∧ x = .int .u64 (at256 n j) ∧ y = .int .i64 ((8 : Nat) - 1 - (j : Int)) ∧ Since w wr ∧ All wr w.heap.size 5 8 (U8 (fun q => if 8 ≤ q + j then byteOf n 8 q else 0))) (fun _ y _ => (intOf y + 1).toNat)
    case atStart => exact ⟨0, by omega, by simp [at256, low64, IntKind.wrap_u64], by simp, hS1, hrow.congr (fun q hq => by simp only [U8, IntRow]; rw [if_neg (by omega)])⟩
    case round =>
      obtain ⟨j, hj, rfl, rfl, hSr, hR⟩ := hrel
      by_cases hjm : j < 8
      · obtain ⟨q, hq⟩ : ∃ q : Nat, q + 1 + j = 8 := ⟨8 - 1 - j, by omega⟩
        have hqi : ((8 : Nat) : Int) - 1 - (j : Int) = (q : Int) := by omega
        have hqm : (q : Int) < 8 := by omega
        have hcell := hR.row.1 q (by omega)
        have hfr := hR.row.2.1 q
        have hx := at256_bd n j
        have hnx := at256_next n j
        have hby := at256_byte n hjm (by omega)
        rw [show 8 - 1 - j = q by omega] at hby
        rw [hqi]
        go_wp2
        rw [hnx]
        refine ⟨⟨j + 1, by omega, rfl, by congr 1 <;> omega, hSr.setCell (Nat.le_refl _) _, (hR.set (i := q) (by omega) _).congr (fun t ht => ?_)⟩, by simp [intOf] <;> omega⟩
        by_cases hqt : t = q
        · subst hqt
          simp only [U8, IntRow]
          rw [if_pos trivial, if_pos (by omega)]
        · simp only [U8, IntRow]
          rw [if_neg hqt]
          by_cases ht2 : 8 ≤ t + j
          · rw [if_pos ht2, if_pos (by omega)]
          · rw [if_neg ht2, if_neg (by omega)]
      · obtain rfl : 8 = j := by omega
        have hR' := hR.congr (U := U8 (byteOf n 8)) (fun q hq => by simp only [U8, IntRow]; rw [if_pos (by omega)])
        clear hR
        go_wp2
        go_ret
        exact ⟨_, rfl, Nat.le_refl _, hR', hSr⟩
end Go.Proofs.YteckkcpnfeoehaaGreatDoor

/-
  Bytes as lists of numbers: rows that read so, rows of a call's own, append; 'Put', 'Copy', 'Same' told by lists.
-/
namespace Go.Proofs.YteckkcpnfeoehaaGreatDoor
set_option maxRecDepth 100000
open Go.RowKit Go.ChangeShapes Go.WideShapes Go.Deep
set_option linter.unusedVariables false

def byL (x : Int) : List Value := [.int .u8 x]
theorem byL_len (x : Int) : (byL x).length = 1 := rfl
theorem byL_one (x : Int) : ∀ u ∈ byL x, u.oneCell' = true := by
  intro u hu
  simp only [byL, List.mem_cons, List.not_mem_nil, or_false] at hu
  subst hu
  rfl
theorem infoBy : ∃ i z, Tryz.prog.info? 5 = some i ∧ i.zero = some z ∧ i.size = 1 ∧ i.bytes = 1 ∧ z.cells.size = 1 := by
  obtain ⟨i0, hi, hz0, hz1, hz2⟩ := info_parts Tryz.info_u8
  exact ⟨i0, _, hi, hz0, hz1, hz2, rfl⟩
abbrev RdB (w : World) (B : Nat) (A : Option Addr) (L : List Int) : Prop := RdG 1 byL w B A L
abbrev OwnB (w : World) (base : Nat) (v : Value) (L : List Int) : Prop := OwnG 5 1 byL w base v L
def fnL (L : List Int) (j : Nat) : Int := L.getD j 0
theorem fnL_get {L : List Int} {j : Nat} (h : j < L.length) : L[j]? = some (fnL L j) := by
  unfold fnL; rw [List.getD_eq_getElem?_getD, List.getElem?_eq_getElem h]; rfl
section
variable {w w' : World} {B n : Nat} {A : Option Addr} {L : List Int} {f : Nat → Int}
theorem rdb_rd (h : RdB w B A L) : Rd w B A L.length (U8 (fnL L)) := fun hn => by
  obtain ⟨b, o, rfl, hb, hc⟩ := h hn
  refine ⟨b, o, rfl, hb, fun j hj => ?_⟩
  have h1 := hc j _ (fnL_get hj) 0 (by omega)
  rw [Nat.mul_one, Nat.add_zero] at h1
  exact h1
theorem rdb_rd' (h : RdB w B A L) (hn : n = L.length) : Rd w B A n (U8 (fnL L)) := by subst hn; exact rdb_rd h
theorem rdb_of (h : Rd w B A n (U8 f)) (hn : n = L.length) (hf : ∀ j, j < n → f j = fnL L j) : RdB w B A L := fun h0 => by
  subst hn
  obtain ⟨b, o, rfl, hb, hc⟩ := h h0
  refine ⟨b, o, rfl, hb, fun j s hj i hi => ?_⟩
  obtain rfl : i = 0 := by omega
  have hjl : j < L.length := by
    rcases Nat.lt_or_ge j L.length with h | h
    · exact h
    · rw [List.getElem?_eq_none h] at hj; cases hj
  rw [fnL_get hjl] at hj
  injection hj with hj
  subst hj
  rw [Nat.mul_one, Nat.add_zero, hc j hjl, U8, IntRow, hf j hjl]
  rfl
theorem rdb_map (h : Rd w B A n (U8 f)) : RdB w B A ((List.range n).map f) := rdb_of h (by simp) (fun j hj => by simp [fnL, List.getD_eq_getElem?_getD, hj])
end
section
variable {P : Program}
/-- append of bytes to bytes of the call's own. -/
theorem wpList_append_b {w w0 : World} {ops : Array Oper} {rest : List Oper} {o : Oper} {a : Act} {Q : Exit → Act → World → Prop} (hgd : o.guard = none) (s x : Operand)
    (ho : o.op = .call { callee := .builtin .append, args := #[s, x], argTypes := #[34, 34] })
    (hS : Since w0 w) (v : Value) (L : List Int) (hs : a.eval s = v) (hown : OwnB w w0.heap.size v L) (B : Nat) (A : Option Addr) (n c : Nat) (M : List Int) (hn : n = M.length) (hx : a.eval x = .slice A n c) (hr : RdB w B A M)
    (hbytes : L.length + M.length ≤ 140737488355328)
    (h : ∀ v' w', OwnB w' w0.heap.size v' (L ++ M) → Since w0 w' → wpList Tryz.prog ops Q rest (a.put o.dst v') w') :
    wpList Tryz.prog ops Q (o :: rest) a w := by
  subst hn
  refine wpList_append_g hgd s x 34 5 ho (by omega) byL_len byL_one 1 Tryz.underlying34 infoBy w0.heap.size v L hs hown B A c M hx hr (by omega) (by simp only [maxLen]; omega) hS.below.size (fun v' w' h9 hg hlt => h v' w' h9 (since_grown hS hg (fun k hk => (hlt k hk).1)))
end
theorem own_of_all {w : World} {g n base : Nat} {f : Nat → Int} (h : All w g 5 n (U8 f)) (hn : n ≤ maxLen) (hb : base ≤ g) : OwnB w base (.slice (some ⟨g, 0, none⟩) n n) ((List.range n).map f) := by
  have e : tab n (U8 f) = cellsG byL ((List.range n).map f) := by
    unfold tab cellsG
    rw [List.flatMap_map]
    simp only [byL]
    induction (List.range n) with
    | nil => rfl
    | cons a l ih => rw [List.map_cons, List.flatMap_cons, ih]; rfl
  have hl : ((List.range n).map f).length = n := by simp
  unfold All at h
  refine ⟨by rw [cellsG_len byL_len], .inr ⟨g, n, (tab n (U8 f)).toArray, by rw [hl], hb, h, by rw [hl]; exact Nat.le_refl _, hn, by simp [tab_len], by rw [← e, hl, Nat.mul_one]; exact List.take_of_length_le (by rw [tab_len]; exact Nat.le_refl _)⟩⟩

theorem put_o (m : Nat) (x y : Int) (w : World) (hx : In64 x) (hy : y = m) (hm : m ≤ 8) : Calls Tryz.prog 64 #[.int .i64 x, .int .i64 y] w fun e w' => ∃ g, e = .returned (.slice (some ⟨g, 0, none⟩) m m) ∧ w.heap.size ≤ g ∧ OwnB w' w.heap.size (.slice (some ⟨g, 0, none⟩) m m) (putL x m) ∧ Since w w' := by
  subst hy
  have hc : clampW m = m := by unfold clampW; split <;> (try split) <;> omega
  have h := be_putA x m w hx (by unfold In64; omega)
  rw [hc] at h
  refine h.mono ?_
  rintro e w' ⟨g, rfl, hg, hr, hS⟩
  exact ⟨g, rfl, hg, own_of_all hr (by simp only [maxLen]; omega) hg, hS⟩

theorem rput_o (m : Nat) (x y : Int) (w : World) (hx : In64 x) (hy : y = m) (hm : m ≤ 8) : Calls Tryz.prog 83 #[.int .i64 x, .int .i64 y] w fun e w' => ∃ g, e = .returned (.slice (some ⟨g, 0, none⟩) m m) ∧ w.heap.size ≤ g ∧ OwnB w' w.heap.size (.slice (some ⟨g, 0, none⟩) m m) (putL x m) ∧ Since w w' := by
  subst hy
  have hc : clampW m = m := by unfold clampW; split <;> (try split) <;> omega
  have h := ref_putA x m w hx (by unfold In64; omega)
  rw [hc] at h
  refine h.mono ?_
  rintro e w' ⟨g, rfl, hg, hr, hS⟩
  exact ⟨g, rfl, hg, own_of_all hr (by simp only [maxLen]; omega) hg, hS⟩

theorem OwnG.low {α : Type} {t : TypeId} {k : Nat} {enc : α → List Value} {w : World} {base base' : Nat} {v : Value} {L : List α} (h : OwnG t k enc w base v L) (hb : base' ≤ base) : OwnG t k enc w base' v L := by
  refine ⟨h.1, ?_⟩
  rcases h.2 with h0 | ⟨g, cap, cur, e, hg, r⟩
  · exact .inl h0
  · exact .inr ⟨g, cap, cur, e, Nat.le_trans hb hg, r⟩
def Bytes (L : List Int) : Prop := ∀ v ∈ L, 0 ≤ v ∧ v ≤ 255
theorem bytes_put (x : Int) (m : Nat) : Bytes (putL x m) := fun v hv => by
  unfold putL at hv
  obtain ⟨j, _, rfl⟩ := List.mem_map.1 hv
  exact byte_range _ _ _
theorem bytes_app {A B : List Int} (h : Bytes A) (k : Bytes B) : Bytes (A ++ B) := fun v hv => by
  rw [List.mem_append] at hv
  exact hv.elim (h v) (k v)
theorem bytes_fn {L : List Int} (h : Bytes L) : ∀ j, j < L.length → 0 ≤ fnL L j ∧ fnL L j ≤ 255 := fun j hj => h _ (List.mem_of_getElem? (fnL_get hj))
theorem bytes_map {n : Nat} {f : Nat → Int} (h : ∀ j, j < n → 0 ≤ f j ∧ f j ≤ 255) : Bytes ((List.range n).map f) := fun v hv => by
  obtain ⟨j, hj, rfl⟩ := List.mem_map.1 hv
  exact h j (by simpa using hj)
theorem same_l (A B : Option Addr) (n m c d : Nat) (L M : List Int) (w : World) (hn : n = L.length) (hm : m = M.length) (h1 : RdB w w.heap.size A L) (h2 : RdB w w.heap.size B M) (e : L = M) :
    Calls Tryz.prog 15 #[.slice A n c, .slice B m d] w fun e w' => e = .returned (.bool true) ∧ w' = w := by
  subst e; subst hn; subst hm
  exact ref_same A B _ c d _ _ w (rdb_rd h1) (rdb_rd h2) (fun _ _ => rfl)
theorem copy_l (A : Option Addr) (n c : Nat) (L : List Int) (w : World) (hn : n = L.length) (h : RdB w w.heap.size A L) (hl : L.length ≤ 140737488355328) :
    Calls Tryz.prog 24 #[.slice A n c] w fun e w' => ∃ g cap, e = .returned (.slice (some ⟨g, 0, none⟩) n cap) ∧ n ≤ cap ∧ w.heap.size ≤ g ∧ OwnB w' w.heap.size (.slice (some ⟨g, 0, none⟩) n cap) L ∧ RdB w' w'.heap.size (some ⟨g, 0, none⟩) L ∧ Since w w' := by
  subst hn
  refine (ref_copy A L.length c (fnL L) w (rdb_rd h) hl).mono ?_
  rintro e w' ⟨g, cap, rfl, ho, hS⟩
  refine ⟨g, cap, rfl, ho.cap, ho.base, ?_, rdb_of (Rd.of_row ho.row) rfl (fun _ _ => rfl), hS⟩
  unfold Own at ho
  have e : tab L.length (U8 (fnL L)) = cellsG byL L := by
    apply List.ext_getElem?
    intro j
    rw [tab_get]
    by_cases hj : j < L.length
    · rw [if_pos hj]
      have := cellsG_get (k := 1) byL_len L j _ (fnL_get hj) 0 (by omega)
      rw [Nat.mul_one, Nat.add_zero] at this
      rw [this]; rfl
    · rw [if_neg hj, List.getElem?_eq_none (by rw [cellsG_len byL_len]; omega)]
  rw [e] at ho
  exact ho
end Go.Proofs.YteckkcpnfeoehaaGreatDoor
