/-
  Layer 3: the law TabsumAdjusts, walked.
-/
import Derived.Test.YtaojdflnfdabhaaTsC
import Derived.Test.YtaojdflnfdabhaaBeE
namespace Go.Proofs.Ytaojdflnfdabhaa
open Go.RowKit
set_option linter.unusedVariables false

theorem wgt_add {n : Nat} (h : n % 4 = 0) (j : Nat) : wgt (n + j) = wgt j := by unfold wgt; rw [show (n + j) % 4 = j % 4 by omega]
theorem accu_cat {s : Int} {n : Nat} {f g : Nat → Int} (h : n % 4 = 0) : ∀ m, accu s (catG n f g) (n + m) = accu (accu s f n) g m
  | 0 => accu_congr fun j hj => by unfold catG; rw [if_pos (by omega)]
  | m + 1 => by
    show accu s (catG n f g) (n + m + 1) = _
    simp only [accu]
    rw [accu_cat h m, wgt_add h]
    congr 2
    unfold catG
    rw [if_neg (by omega), show n + m - n = m by omega]
theorem accu_word {a : Int} (h : 0 ≤ a ∧ a < 4294967296) : accu 0 (byteOf a 4) 4 = a := by
  simp only [accu, byteOf, wgt]
  simp only [Nat.reduceSub, Nat.reduceMul, Int.reducePow, Nat.reduceMod]
  omega
/-- The bytes with a word of noughts; with the adjustment. -/
def mid (q : Nat) (f : Nat → Int) (z : Nat → Int) (o : Nat → Int) : Nat → Int := catG (q * 4 + 4) (catG (q * 4) f z) o
theorem accu_mid {q m : Nat} {f z o : Nat → Int} : accu 0 (mid q f z o) (q * 4 + 4 + m) = ((accu 0 f (q * 4) + accu 0 z 4) % 4294967296 + accu 0 o m) % 4294967296 := by
  have h0 := accu_range (s := 0) (f := f) (by omega) (q * 4)
  unfold mid
  rw [accu_cat (by omega), accu_cat (by omega)]
  have h1 := accu_range (f := z) h0 4
  rw [accu_from h1 m, accu_from h0 4]
theorem adjusted {q m : Nat} {f o : Nat → Int} : accu 0 (mid q f (byteOf ((2981146554 - accu 0 (mid q f (fun _ => 0) o) (q * 4 + 4 + m)) % 4294967296) 4) o) (q * 4 + 4 + m) = 2981146554 := by
  rw [accu_mid, accu_mid]
  have hz : accu 0 (fun _ => (0 : Int)) 4 = 0 := by simp [accu]
  rw [hz, accu_word (by omega)]
  generalize accu 0 f (q * 4) = x
  generalize accu 0 o m = y
  omega
theorem rd_four (w : World) (b : Nat) (hb : b = w.heap.size) : Rd (w.alloc (.cells #[.int .u8 0, .int .u8 0, .int .u8 0, .int .u8 0] 5)) (w.heap.size + 1) (some ⟨b, 0, none⟩) 4 (U8 (fun _ => 0)) := fun _ => by
  subst hb
  refine ⟨w.heap.size, 0, rfl, by simp, fun j hj => ?_⟩
  have h : j = 0 ∨ j = 1 ∨ j = 2 ∨ j = 3 := by omega
  rw [World.cell?_alloc_new, Nat.zero_add]
  rcases h with rfl | rfl | rfl | rfl <;> rfl
/-- So far the adjustment is laid. -/
def part (a : Int) (i j : Nat) : Int := if j < i then byteOf a 4 j else 0
def laid (q : Nat) (f o : Nat → Int) (a : Int) (i : Nat) : Nat → Int := mid q f (part a i) o
theorem laid_0 (q : Nat) (f o : Nat → Int) (a : Int) : laid q f o a 0 = mid q f (fun _ => 0) o := by unfold laid; congr 1
theorem laid_4 (q : Nat) (f o : Nat → Int) (a : Int) : ∀ j, laid q f o a 4 j = mid q f (byteOf a 4) o j := fun j => by
  unfold laid mid catG
  by_cases h : j < q * 4 + 4
  · rw [if_pos h, if_pos h]
    by_cases h2 : j < q * 4
    · rw [if_pos h2, if_pos h2]
    · rw [if_neg h2, if_neg h2, part, if_pos (by omega)]
  · rw [if_neg h, if_neg h]
theorem laid_next {q : Nat} {f o : Nat → Int} {a : Int} {i : Nat} (hi : i < 4) (j : Nat) : (if j = q * 4 + i then byteOf a 4 i else laid q f o a i j) = laid q f o a (i + 1) j := by
  unfold laid mid catG
  by_cases e : j = q * 4 + i
  · subst e
    rw [if_pos rfl, if_pos (by omega), if_neg (by omega), show q * 4 + i - q * 4 = i by omega, part, if_pos (by omega)]
  · rw [if_neg e]
    by_cases h : j < q * 4 + 4
    · rw [if_pos h, if_pos h]
      by_cases h2 : j < q * 4
      · rw [if_pos h2, if_pos h2]
      · rw [if_neg h2, if_neg h2]
        unfold part
        by_cases h3 : j - q * 4 < i
        · rw [if_pos h3, if_pos (by omega)]
        · rw [if_neg h3, if_neg (by omega)]
    · rw [if_neg h, if_neg h]
theorem laid_range {q m : Nat} {f o : Nat → Int} {a : Int} {i : Nat} (hf : ∀ j, j < q * 4 → 0 ≤ f j ∧ f j ≤ 255) (ho : ∀ j, j < m → 0 ≤ o j ∧ o j ≤ 255) : ∀ j, j < q * 4 + 4 + m → 0 ≤ laid q f o a i j ∧ laid q f o a i j ≤ 255 := by
  unfold laid mid
  refine catG_range (catG_range hf (fun j _ => ?_)) ho
  unfold part
  split
  · unfold byteOf
    have h1 := Int.emod_nonneg (a / 2 ^ (8 * (4 - 1 - j))) (show (256 : Int) ≠ 0 by decide)
    have h2 := Int.emod_lt_of_pos (a / 2 ^ (8 * (4 - 1 - j))) (show (0 : Int) < 256 by decide)
    omega
  · omega
theorem ref_put4 (x : Int) (w : World) (hx : In64 x) : Calls Try.prog 21 #[.int .i64 x, .int .i64 4] w fun e w' => ∃ g, e = .returned (.slice (some ⟨g, 0, none⟩) 4 4) ∧ w.heap.size ≤ g ∧ Row w' g 4 (U8 (byteOf x 4)) ∧ Since w w' := ref_put x 4 w hx (by unfold In64; omega)

set_option maxHeartbeats 4000000 in
theorem walk_adjusts (A B : Option Addr) (n c m d : Nat) (f o : Nat → Int) (w : World) (h : Rd w w.heap.size A n (U8 f)) (hB : Rd w w.heap.size B m (U8 o)) (hf : ∀ j, j < n → 0 ≤ f j ∧ f j ≤ 255) (ho : ∀ j, j < m → 0 ≤ o j ∧ o j ≤ 255) (hn : n ≤ 140737488355328) (hm : m ≤ 140737488355328) (hnc : n ≤ c) :
    Calls Try.prog 11 #[.slice A n c, .slice B m d] w fun e w' => e = .returned (.bool true) ∧ Since w w' := by
  obtain ⟨i0, hi0, hz0, hz1, hz2⟩ := info_parts Try.info_u8
  by_cases hbig : (5000 : Int) < n
  · have d1 : decide ((5000 : Int) < n) = true := by simpa using hbig
    clear h hf hB ho
    go_enter Try.func11, Try.ntmps11
    go_wp2_with (go_at_call 28; refine (alive03 _).mono ?_; rintro e w1 ⟨rfl, hS1⟩)
    go_ret
    exact ⟨rfl, hS1⟩
  have d1 : decide ((5000 : Int) < n) = false := by simpa using hbig
  by_cases hbig2 : (5000 : Int) < m
  · have d2 : decide ((5000 : Int) < m) = true := by simpa using hbig2
    clear h hf hB ho hbig
    go_enter Try.func11, Try.ntmps11
    go_wp2_with (go_at_call 28; refine (alive03 _).mono ?_; rintro e w1 ⟨rfl, hS1⟩)
    go_ret
    exact ⟨rfl, hS1⟩
  · have d2 : decide ((5000 : Int) < m) = false := by simpa using hbig2
    obtain ⟨q, hq⟩ : ∃ q : Nat, n / 4 = q := ⟨_, rfl⟩
    have hq1 : (n : Int) / 4 = (q : Int) := by omega
    have hqn : q * 4 ≤ n := by omega
    have hqn' : (q : Int) * 4 ≤ n := by omega
    have hq5 : q ≤ 1250 := by omega
    have hm5 : m ≤ 5000 := by omega
    have b1 : (q * 4 + 4) * 1 ≤ 140737488355328 := by omega
    have b2 : q * 4 + 4 ≤ maxLen := by simp only [maxLen]; omega
    have b3 : (q * 4 + 4 + m) * 1 ≤ 140737488355328 := by omega
    have b4 : q * 4 + 4 + m ≤ maxLen := by simp only [maxLen]; omega
    have hf4 : ∀ j, j < q * 4 → 0 ≤ f j ∧ f j ≤ 255 := fun j hj => hf j (by omega)
    have hT := h.take hqn
    obtain ⟨AJ, haj⟩ : ∃ AJ, (2981146554 - accu 0 (mid q f (fun _ => 0) o) (q * 4 + 4 + m)) % 4294967296 = AJ := ⟨_, rfl⟩
    have hajr : 0 ≤ AJ ∧ AJ < 4294967296 := by omega
    have hl0 := laid_0 q f o AJ
    have HA : Hid ((2981146554 - accu 0 (laid q f o AJ 0) (q * 4 + 4 + m)) % 4294967296 = AJ) := Lib.hid (by rw [hl0]; exact haj)
    have LQ : ∀ {w' : World} {b g k : Nat}, Own w' b g k (q * 4 + 4 + m) (catG (q * 4 + 4) (catG (q * 4) f (fun _ => 0)) o) → Own w' b g k (q * 4 + 4 + m) (laid q f o AJ 0) := fun hh => by rw [hl0]; exact hh
    have HR0 := laid_range (q := q) (m := m) (f := f) (o := o) (a := AJ) (i := 0) hf4 ho
    have HT0 := accu_range (s := 0) (f := laid q f o AJ 0) (by omega) (q * 4 + 4 + m)
    have HR4 := laid_range (q := q) (m := m) (f := f) (o := o) (a := AJ) (i := 4) hf4 ho
    have HE := Lib.hid (show accu 0 (laid q f o AJ 4) (q * 4 + 4 + m) = 2981146554 by
      rw [accu_congr (fun j _ => laid_4 q f o AJ j), ← haj]; exact adjusted)
    clear hbig hbig2 hq h hf hl0 haj
    go_enter Try.func11, Try.ntmps11
    go_wp2_with (first | (go_at_call 28; refine (alive03 _).mono ?_; rintro e w1 ⟨rfl, hS1⟩; have h1 := hT.on hS1; have hB1 := hB.on hS1) | (go_at_call 14; refine (ref_copy A (q * 4) c f w1 h1 (by omega)).mono ?_; rintro e w2 ⟨g2, c2, rfl, hown2, hS2⟩; have q1 := own_since hown2 ((Since.refl w2).alloc (.cells #[.int .u8 0, .int .u8 0, .int .u8 0, .int .u8 0] 5)); have q2 := rd_four w2 w2.heap.size rfl; have hg2 := hown2.base; have hS12 := hS2.alloc (.cells #[.int .u8 0, .int .u8 0, .int .u8 0, .int .u8 0] 5); have q5 : w1.heap.size ≤ (w2.alloc (.cells #[.int .u8 0, .int .u8 0, .int .u8 0, .int .u8 0] 5)).heap.size := hS12.below.size; clear hown2 hS2; have tok1 := True.intro) | (at_builtin; have _t := tok1; refine wpList_append_rd _ (by rfl) _ _ _ (by rfl) w1.heap.size 5 i0 _ 1 Try.underlying22 hi0 hz0 hz1 hz2 (by rfl) g2 c2 (q * 4) _ (by rfl) q1 (w2.heap.size + 1) _ 4 4 (U8 (fun _ => 0)) (by rfl) q2 tab_ones b1 b2 q5 ?_; intro g4 c4 w4 hown4 hgr4 hat4; have hO4 := own_catG hown4; have hS14 := since_grown hS12 hgr4 (fun k hk => by injection hk with hk; omega); have q6 := hB1.on hS14; have q7 : w1.heap.size ≤ w4.heap.size := hS14.below.size; have hg4 := hO4.base; clear tok1 q1 q2 q5 hS12 hown4 hgr4 hat4; have tok2 := True.intro) | (at_builtin; have _t := tok2; refine wpList_append_rd _ (by rfl) _ _ _ (by rfl) w1.heap.size 5 i0 _ 1 Try.underlying22 hi0 hz0 hz1 hz2 (by rfl) g4 c4 (q * 4 + 4) _ (by rfl) hO4 w4.heap.size B m d (U8 o) (by rfl) q6 tab_ones b3 b4 q7 ?_; intro g5 c5 w5 hown5 hgr5 hat5; have hO5 : Own w5 w1.heap.size g5 c5 (q * 4 + 4 + m) (laid q f o AJ 0) := LQ (own_catG hown5); have hS15 := since_grown hS14 hgr5 (fun k hk => by injection hk with hk; omega); have hR5 := hO5.row; have hg5 := hO5.base; have hr5 := Rd.of_row hR5; clear tok2 q6 q7 hO4 hS14 hown5 hgr5 hat5 hO5; have tok3 := True.intro) | (go_at_call 29; have _t := tok3; refine (ts_sum _ (q * 4 + 4 + m) _ _ w5 hr5 HR0 (by omega)).mono ?_; rintro e w5 ⟨rfl, rfl⟩; clear tok3 hr5) | (go_at_call 33; refine (ts_adjust _ w5 HT0).mono ?_; rintro e w5 ⟨rfl, rfl⟩; rw [HA.out]) | (go_at_call 21; refine (ref_put4 AJ w5 (by unfold In64; omega)).mono ?_; rintro e w6 ⟨g6, rfl, hg6, hR6, hS6⟩; have hP := hR5.since hS6; have hS16 := hS15.trans hS6; have hlt := hR5.2.2; clear hR5 hS15 hS6))
    have hgne : g5 ≠ g6 := by omega
    generalize hN : q * 4 + 4 + m = N at *
    go_loopw [7, 8, 37] (fun _ _ y wr => ∃ i : Nat, i ≤ 4 ∧ y = .int .i64 (i : Int) ∧ Since w1 wr ∧ Row wr g5 N (U8 (laid q f o AJ i)) ∧ Row wr g6 4 (U8 (byteOf AJ 4))) (fun _ _ y _ => 4 - (intOf y).toNat)
    case atStart => exact ⟨0, by omega, rfl, hS16, hP, hR6⟩
    case round =>
      obtain ⟨i, hi, rfl, hSr, hX, hY⟩ := hrel
      by_cases hlt4 : i < 4
      · have hlt4' : (i : Int) < 4 := by omega
        have hy : wr.cell? ⟨g6, i, none⟩ = some (.int .u8 (byteOf AJ 4 i)) := hY.1 i hlt4
        have hx : wr.cell? ⟨g5, q * 4 + i, none⟩ = some (.int .u8 (laid q f o AJ i (q * 4 + i))) := hX.1 _ (by omega)
        have hfz := hX.2.1 (q * 4 + i)
        have hin : (q : Int) * 4 + i < N := by omega
        clear hP hR6 hS16
        go_wp2
        refine ⟨⟨i + 1, by omega, by simp, hSr.setCell hg5 _, (hX.set (q * 4 + i) _).congr (fun t ht => ?_), hY.far (fun e => hgne e) _ _⟩, by simp [intOf]; omega⟩
        simp only [U8, IntRow]
        rw [← laid_next hlt4 t]
        split <;> rfl
      · obtain rfl : i = 4 := by omega
        have hr5 := Rd.of_row hX
        have hS := hS1.trans hSr
        clear hP hR6 hS16 hX hY
        go_wp2_with (go_at_call 29; refine (ts_sum _ N _ _ _ hr5 HR4 (by omega)).mono ?_; rintro e w7 ⟨rfl, rfl⟩; rw [HE.out])
        go_ret
        exact ⟨rfl, hS⟩
end Go.Proofs.Ytaojdflnfdabhaa
