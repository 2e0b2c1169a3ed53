/-
  Layer 2: the law BeBack, walked.
-/
import Derived.Test.YtaojdflnfdabhaaBeI
namespace Go.Proofs.Ytaojdflnfdabhaa
open Go.RowKit
set_option linter.unusedVariables false

def catF (n : Nat) (f o : Nat → Int) (j : Nat) : Int := if j < n then f j else o (j - n)
theorem cat_u8 (n : Nat) (f o : Nat → Int) : (fun j => if j < n then U8 f j else U8 o (j - n)) = U8 (catF n f o) := by
  funext j
  simp only [U8, IntRow, catF]
  split <;> rfl
theorem byteOf_range (n : Int) (m j : Nat) : 0 ≤ byteOf n m j ∧ byteOf n m j ≤ 255 := by
  unfold byteOf
  have h1 := Int.emod_nonneg (n / 2 ^ (8 * (m - 1 - j))) (show (256 : Int) ≠ 0 by decide)
  have h2 := Int.emod_lt_of_pos (n / 2 ^ (8 * (m - 1 - j))) (show (0 : Int) < 256 by decide)
  omega
theorem catF_range {n m : Nat} {f o : Nat → Int} (hf : ∀ j, j < n → 0 ≤ f j ∧ f j ≤ 255) (ho : ∀ j, j < m → 0 ≤ o j ∧ o j ≤ 255) : ∀ j, j < n + m → 0 ≤ catF n f o j ∧ catF n f o j ≤ 255 := fun j hj => by
  unfold catF
  split
  · exact hf j (by assumption)
  · exact ho _ (by omega)
theorem num4 (n : Int) (a : Nat) (f g : Nat → Int) : numAt (catF (a + 4) (catF a f (byteOf n 4)) g) a 4 = n % 4294967296 := by
  have e : ∀ i, i < 4 → catF (a + 4) (catF a f (byteOf n 4)) g (a + i) = byteOf n 4 i := fun i hi => by
    unfold catF
    rw [if_pos (by omega), if_neg (by omega), show a + i - a = i by omega]
  simp only [numAt, e 0 (by omega), e 1 (by omega), e 2 (by omega), e 3 (by omega), byteOf]
  simp only [Nat.reduceSub, Nat.reduceMul, Int.reducePow]
  omega
theorem num2 (n : Int) (a : Nat) (f : Nat → Int) : numAt (catF a f (byteOf n 2)) a 2 = n % 65536 := by
  have e : ∀ i, i < 2 → catF a f (byteOf n 2) (a + i) = byteOf n 2 i := fun i hi => by
    unfold catF
    rw [if_neg (by omega), show a + i - a = i by omega]
  simp only [numAt, e 0 (by omega), e 1 (by omega), byteOf]
  simp only [Nat.reduceSub, Nat.reduceMul, Int.reducePow]
  omega
theorem back_s4 {n : Int} {a b : Nat} {f g : Nat → Int} (h : -2147483648 ≤ n ∧ n ≤ 2147483647) : sAns (catF (a + 4) (catF a f (byteOf n 4)) g) (a + 4 + b) a 4 = (n, 0) := by
  unfold sAns
  rw [if_neg (by omega), if_pos (by unfold Fits; omega)]
  simp only [Int.toNat_natCast, Int.reduceToNat]
  rw [num4]
  unfold sgn
  simp only [Int.reducePow]
  split <;> (congr 1; omega)
theorem back_u4 {n : Int} {a b : Nat} {f g : Nat → Int} : uAns (catF (a + 4) (catF a f (byteOf n 4)) g) (a + 4 + b) a 4 = (n % 4294967296, 0) := by
  unfold uAns
  rw [if_neg (by omega), if_pos (by unfold Fits; omega)]
  simp only [Int.toNat_natCast, Int.reduceToNat]
  rw [num4]
theorem back_s2 {n : Int} {a : Nat} {f : Nat → Int} (h : -32768 ≤ n ∧ n ≤ 32767) : sAns (catF a f (byteOf n 2)) (a + 2) a 2 = (n, 0) := by
  unfold sAns
  rw [if_neg (by omega), if_pos (by unfold Fits; omega)]
  simp only [Int.toNat_natCast, Int.reduceToNat]
  rw [num2]
  unfold sgn
  simp only [Int.reducePow]
  split <;> (congr 1; omega)

theorem put4 (x : Int) (w : World) (hx : In64 x) : Calls Try.prog 20 #[.int .i64 x, .int .i64 4] w fun e w' => ∃ g, e = .returned (.slice (some ⟨g, 0, none⟩) 4 4) ∧ w.heap.size ≤ g ∧ Row w' g 4 (U8 (byteOf x 4)) ∧ Since w w' := be_put x 4 w hx (by unfold In64; omega)
theorem put2 (x : Int) (w : World) (hx : In64 x) : Calls Try.prog 20 #[.int .i64 x, .int .i64 2] w fun e w' => ∃ g, e = .returned (.slice (some ⟨g, 0, none⟩) 2 2) ∧ w.heap.size ≤ g ∧ Row w' g 2 (U8 (byteOf x 2)) ∧ Since w w' := be_put x 2 w hx (by unfold In64; omega)
theorem back_S4 (A : Option Addr) (n m c : Nat) (f o : Nat → Int) (x : Int) (w : World) (h : Rd w w.heap.size A (n + 4 + m) (U8 (catF (n + 4) (catF n f (byteOf x 4)) o))) (hf : ∀ j, j < n → 0 ≤ f j ∧ f j ≤ 255) (ho : ∀ j, j < m → 0 ≤ o j ∧ o j ≤ 255) (hx : -2147483648 ≤ x ∧ x ≤ 2147483647) (hn : n + m ≤ 1048576) :
    Calls Try.prog 17 #[.slice A (n + 4 + m) c, .int .i64 n, .int .i64 4] w fun e w' => e = .returned (.tuple #[.int .i64 x, .int .i64 0]) ∧ w' = w := by
  have hc := be_s A (n + 4 + m) c _ n 4 w h (catF_range (catF_range hf (fun j _ => byteOf_range x 4 j)) ho) (by unfold In64; omega) (by unfold In64; omega) (by omega)
  rw [back_s4 hx] at hc
  exact hc
theorem back_U4 (A : Option Addr) (n m c : Nat) (f o : Nat → Int) (x : Int) (w : World) (h : Rd w w.heap.size A (n + 4 + m) (U8 (catF (n + 4) (catF n f (byteOf x 4)) o))) (hf : ∀ j, j < n → 0 ≤ f j ∧ f j ≤ 255) (ho : ∀ j, j < m → 0 ≤ o j ∧ o j ≤ 255) (hx : -2147483648 ≤ x ∧ x ≤ 2147483647) (hn : n + m ≤ 1048576) :
    Calls Try.prog 15 #[.slice A (n + 4 + m) c, .int .i64 n, .int .i64 4] w fun e w' => e = .returned (.tuple #[.int .i64 (x % 4294967296), .int .i64 0]) ∧ w' = w := by
  have hc := be_u A (n + 4 + m) c _ n 4 w h (catF_range (catF_range hf (fun j _ => byteOf_range x 4 j)) ho) (by unfold In64; omega) (by unfold In64; omega) (by omega)
  rw [back_u4] at hc
  exact hc
theorem back_S2 (A : Option Addr) (n c : Nat) (f : Nat → Int) (x : Int) (w : World) (h : Rd w w.heap.size A (n + 2) (U8 (catF n f (byteOf x 2)))) (hf : ∀ j, j < n → 0 ≤ f j ∧ f j ≤ 255) (hx : -32768 ≤ x ∧ x ≤ 32767) (hn : n ≤ 1048576) :
    Calls Try.prog 17 #[.slice A (n + 2) c, .int .i64 n, .int .i64 2] w fun e w' => e = .returned (.tuple #[.int .i64 x, .int .i64 0]) ∧ w' = w := by
  have hc := be_s A (n + 2) c _ n 2 w h (catF_range hf (fun j _ => byteOf_range x 2 j)) (by unfold In64; omega) (by unfold In64; omega) (by omega)
  rw [back_s2 hx] at hc
  exact hc
theorem own_cat {w : World} {B g cap n m : Nat} {f o : Nat → Int} (h : w.ownsRow B 5 1 (.slice (some ⟨g, 0, none⟩) (n + m) cap) (n + m) (tab n (U8 f) ++ tab m (U8 o))) : Own w B g cap (n + m) (catF n f o) := by
  rw [tab_append, cat_u8] at h
  exact h

set_option maxRecDepth 100000 in
set_option maxHeartbeats 4000000 in
theorem walk_back (x : Int) (A B : Option Addr) (n c m d : Nat) (f o : Nat → Int) (w : World) (hx : -2147483648 ≤ x ∧ x ≤ 2147483647) (h : Rd w w.heap.size A n (U8 f)) (hB : Rd w w.heap.size B m (U8 o)) (hf : ∀ j, j < n → 0 ≤ f j ∧ f j ≤ 255) (ho : ∀ j, j < m → 0 ≤ o j ∧ o j ≤ 255) (hn : n + m ≤ 1048576) :
    Calls Try.prog 6 #[.int .i32 x, .slice A n c, .slice B m d] w fun e w' => e = .returned (.bool true) ∧ Since w w' := by
  obtain ⟨i0, hi0, hz0, hz1, hz2⟩ := info_parts Try.info_u8
  have b1 : (n + 4) * 1 ≤ 140737488355328 := by omega
  have b2 : n + 4 ≤ maxLen := by simp only [maxLen]; omega
  have b3 : (n + 4 + m) * 1 ≤ 140737488355328 := by omega
  have b4 : n + 4 + m ≤ maxLen := by simp only [maxLen]; omega
  have b5 : (n + 2) * 1 ≤ 140737488355328 := by omega
  have b6 : n + 2 ≤ maxLen := by simp only [maxLen]; omega
  obtain ⟨y, hy⟩ : ∃ y, IntKind.i16.wrap x = y := ⟨_, rfl⟩
  have hyb : -32768 ≤ y ∧ y ≤ 32767 := by rw [← hy]; simp only [IntKind.wrap, IntKind.signed, IntKind.bits]; simp; omega
  have hy1 := hyb.1
  have hy2 := hyb.2
  go_enter Try.func6, Try.ntmps6
  go_wp2_with (first | (go_at_call 13; refine (alive02 _).mono ?_; rintro e w1 ⟨rfl, hS1⟩; have h1 := h.on hS1; have hB1 := hB.on hS1; have tok1 := True.intro) | (go_at_call 14; have _t := tok1; refine (ref_copy A n c f w1 h1 (by omega)).mono ?_; rintro e w2 ⟨g2, c2, rfl, hown2, hS2⟩; clear tok1; have tok2 := True.intro) | (go_at_call 20; have _t := tok2; refine (put4 x w2 (by unfold In64; omega)).mono ?_; rintro e w3 ⟨g3, rfl, hg3, hR3, hS3⟩; have q1 := own_since hown2 hS3; have q2 := Rd.of_row hR3; have hg2 := hown2.base; have hS13 := hS2.trans hS3; have q5 : w1.heap.size ≤ w3.heap.size := hS13.below.size; clear tok2 hown2 hR3 hS2 hS3; have tok3 := True.intro) | (at_builtin; have _t := tok3; refine wpList_append_rd _ (by rfl) _ _ _ (by rfl) w1.heap.size 5 i0 _ 1 Try.underlying22 hi0 hz0 hz1 hz2 (by rfl) g2 c2 n _ (by rfl) q1 w3.heap.size (some ⟨g3, 0, none⟩) 4 4 (U8 (byteOf x 4)) (by rfl) q2 tab_ones b1 b2 q5 ?_; intro g4 c4 w4 hown4 hgr4 hat4; have hO4 := own_cat hown4; have hS14 := since_grown hS13 hgr4 (fun k hk => by injection hk with hk; omega); have q6 := hB1.on hS14; have q7 : w1.heap.size ≤ w4.heap.size := hS14.below.size; have hg4 := hO4.base; clear tok3 q1 q2 q5 hS13 hown4 hgr4 hat4; have tok4 := True.intro) | (at_builtin; have _t := tok4; refine wpList_append_rd _ (by rfl) _ _ _ (by rfl) w1.heap.size 5 i0 _ 1 Try.underlying22 hi0 hz0 hz1 hz2 (by rfl) g4 c4 (n + 4) _ (by rfl) hO4 w4.heap.size B m d (U8 o) (by rfl) q6 tab_ones b3 b4 q7 ?_; intro g5 c5 w5 hown5 hgr5 hat5; have hO5 := own_cat hown5; have hS15 := since_grown hS14 hgr5 (fun k hk => by injection hk with hk; omega); have hR5 := Rd.of_row hO5.row; have h5 := h1.on hS15; clear tok4 q6 q7 hO4 hS14 hown5 hgr5 hat5; have tok5 := True.intro) | (go_at_call 17; have _t := tok5; (with_reducible refine (back_S4 _ _ _ _ _ _ _ _ hR5 hf ho hx hn).mono ?_); rintro e w5 ⟨rfl, rfl⟩; clear tok5; have tok6 := True.intro) | (go_at_call 15; have _t := tok6; (with_reducible refine (back_U4 _ _ _ _ _ _ _ _ hR5 hf ho hx hn).mono ?_); rintro e w5 ⟨rfl, rfl⟩; clear tok6 hR5; have tok7 := True.intro) | (go_at_call 14; have _t := tok7; refine (ref_copy A n c f _ h5 (by omega)).mono ?_; rintro e w6 ⟨g6, c6, rfl, hown6, hS6⟩; clear tok7; have tok8 := True.intro) | (go_at_call 20; have _t := tok8; refine (put2 y w6 (by unfold In64; omega)).mono ?_; rintro e w7 ⟨g7, rfl, hg7, hR7, hS7⟩; have q1 := own_since hown6 hS7; have q2 := Rd.of_row hR7; have hg6 := hown6.base; have q5 : w5.heap.size ≤ w7.heap.size := (hS6.trans hS7).below.size; have hS57 := hS6.trans hS7; clear tok8 hown6 hR7 hS6 hS7; have tok9 := True.intro) | (at_builtin; have _t := tok9; refine wpList_append_rd _ (by rfl) _ _ _ (by rfl) w5.heap.size 5 i0 _ 1 Try.underlying22 hi0 hz0 hz1 hz2 (by rfl) g6 c6 n _ (by rfl) q1 w7.heap.size (some ⟨g7, 0, none⟩) 2 2 (U8 (byteOf y 2)) (by rfl) q2 tab_ones b5 b6 q5 ?_; intro g8 c8 w8 hown8 hgr8 hat8; have hO8 := own_cat hown8; have hR8 := Rd.of_row hO8.row; have hS := hS1.trans (hS15.trans (since_grown hS57 hgr8 (fun k hk => by injection hk with hk; omega))); clear tok9 q1 q2 q5 hown8 hgr8 hat8 hO8; have tok10 := True.intro) | (go_at_call 17; have _t := tok10; (with_reducible refine (back_S2 _ _ _ _ _ _ hR8 hf hyb (by omega)).mono ?_); rintro e w' ⟨rfl, rfl⟩; clear tok10))
  go_ret
  exact ⟨rfl, hS⟩
end Go.Proofs.Ytaojdflnfdabhaa
