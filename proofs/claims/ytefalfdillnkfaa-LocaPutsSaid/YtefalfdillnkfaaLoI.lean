/-
  Layer 6: the laws LocaLong, LocaBack, walked.
-/
import Derived.Test.YtefalfdillnkfaaLoH
namespace Go.Proofs.Ytefalfdillnkfaa
open Go.RowKit
set_option linter.unusedVariables false

theorem wrN_yes {l : Bool} {f : Nat → Int} {n : Nat} (h : wrE l f n = 0) : wrN l f n = wide4 l * n := by unfold wrN; rw [if_pos h]
theorem wrN_no {l : Bool} {f : Nat → Int} {n : Nat} (h : wrE l f n ≠ 0) : wrN l f n = 0 := by unfold wrN; rw [if_neg h]
set_option maxHeartbeats 8000000 in
theorem walk_locaonly (A : Option Addr) (n c : Nat) (f : Nat → Int) (w : World) (h : Rd w w.heap.size A n (I64 f)) (hf : ∀ j, j < n → In64 (f j)) (hn : n * 8 ≤ 140737488351232) :
    Calls Try.prog 8 #[.slice A n c] w fun e w' => e = .returned (.bool true) ∧ Since w w' := by
  have hlen : n ≤ maxLen := by simp only [maxLen]; omega
  have hn' : (n : Int) ≤ 17592186044416 := by omega
  by_cases h1 : n < 1
  · have h1' : (n : Int) < 1 := by omega
    clear h
    go_enter Try.func8, Try.ntmps8
    go_wp2_with (go_at_call 9; (with_reducible refine (alive06 _).mono ?_); rintro e w1 ⟨rfl, hS1⟩)
    go_ret
    exact ⟨by first | rfl | simp, hS1⟩
  by_cases h2 : 1025 < n
  · have h2' : (1025 : Int) < n := by omega
    have h1' : (1 : Int) ≤ n := by omega
    clear h
    go_enter Try.func8, Try.ntmps8
    go_wp2_with (go_at_call 9; (with_reducible refine (alive06 _).mono ?_); rintro e w1 ⟨rfl, hS1⟩)
    go_ret
    exact ⟨by first | rfl | simp, hS1⟩
  have h1' : (1 : Int) ≤ n := by omega
  have h2' : (n : Int) ≤ 1025 := by omega
  have hW : ∀ w1, Since w w1 → Calls Try.prog 15 #[.slice A n c, .bool false] w1 (WrPost false f n w1) := fun w1 hS => lo_write2 A n c f w1 (by omega) hf (h.on hS)
  have hL : ∀ w1, Since w w1 → Calls Try.prog 17 #[.slice A n c] w1 fun e w' => e = .returned (.bool (wrE false f n != 0)) ∧ Since w1 w' := fun w1 hS => lo_long A n c f w1 hlen (h.on hS)
  have hW4 : ∀ w1, Since w w1 → Calls Try.prog 15 #[.slice A n c, .bool true] w1 (WrPost true f n w1) := fun w1 hS => lo_write4 A n c f w1 (by omega) hf (h.on hS)
  unfold WrPost at hW hW4
  have hr := wrE_cases false f n
  rcases hr with hE | hE
  · have e4 := wr_short hE
    rw [wrN_yes e4, e4] at hW4
    rw [wrN_yes hE, hE] at hW
    rw [hE] at hL
    have H2 := Lib.hid hW; have H4 := Lib.hid hW4; have HL := Lib.hid hL
    clear hW hW4 hL e4 hE h hf
    have hm2 : wide4 false * n = 2 * n := rfl
    have hm4 : wide4 true * n = 4 * n := rfl
    rw [hm2] at H2; rw [hm4] at H4
    clear hm2 hm4
    have tok1 := True.intro
    go_enter Try.func8, Try.ntmps8
    go_wp2_with (first | (go_at_call 9; (with_reducible refine (alive06 _).mono ?_); rintro e w1 ⟨rfl, hS1⟩) | (go_at_call 15; have _t := tok1; (with_reducible refine (H2.out w1 hS1).mono ?_); rintro e w2 ⟨A2, c2, rfl, _, hS2⟩; have hT2 := hS1.trans hS2; clear tok1; have tok2 := True.intro) | (go_at_call 17; (with_reducible refine (HL.out w2 hT2).mono ?_); rintro e w3 ⟨rfl, hS3⟩; have hT3 := hT2.trans hS3) | (go_at_call 15; have _t := tok2; (with_reducible refine (H4.out w3 hT3).mono ?_); rintro e w4 ⟨A4, c4, rfl, _, hS4⟩; have hT4 := hT3.trans hS4; clear tok2))
    go_ret
    exact ⟨by first | rfl | simp, hT4⟩
  · have hne : wrE false f n ≠ 0 := by rcases hE with hE | hE <;> rw [hE] <;> decide
    rw [wrN_no hne] at hW
    clear hW4 hne
    generalize wrE false f n = E at *
    have H2 := Lib.hid hW; have HL := Lib.hid hL
    clear hW hL h hf
    rcases hE with rfl | rfl
    all_goals
      go_enter Try.func8, Try.ntmps8
      go_wp2_with (first | (go_at_call 9; (with_reducible refine (alive06 _).mono ?_); rintro e w1 ⟨rfl, hS1⟩) | (go_at_call 15; (with_reducible refine (H2.out w1 hS1).mono ?_); rintro e w2 ⟨A2, c2, rfl, _, hS2⟩; have hT2 := hS1.trans hS2) | (go_at_call 17; (with_reducible refine (HL.out w2 hT2).mono ?_); rintro e w3 ⟨rfl, hS3⟩; have hT3 := hT2.trans hS3))
      go_ret
      exact ⟨by first | rfl | simp, hT3⟩

/-- What was written, read. -/
def catB (n : Nat) (f o : Nat → Int) (j : Nat) : Int := if j < n then f j else o (j - n)
theorem cat_bytes (n m : Nat) (f o : Nat → Int) : tab n (U8 f) ++ tab m (U8 o) = tab (n + m) (U8 (catB n f o)) := by
  rw [tab_append]
  refine tab_congr fun j hj => ?_
  unfold catB
  simp only [U8, IntRow]
  split <;> rfl
theorem byte_range (n : Int) (m j : Nat) : 0 ≤ byteOf n m j ∧ byteOf n m j ≤ 255 := by
  unfold byteOf
  have h1 := Int.emod_nonneg (n / 2 ^ (8 * (m - 1 - j))) (show (256 : Int) ≠ 0 by decide)
  have h2 := Int.emod_lt_of_pos (n / 2 ^ (8 * (m - 1 - j))) (show (0 : Int) < 256 by decide)
  omega
theorem cat_range {n m : Nat} {l : Bool} {f o : Nat → Int} (ho : ∀ j, j < m → 0 ≤ o j ∧ o j ≤ 255) : ∀ j, j < n + m → 0 ≤ catB n (wrF l f) o j ∧ catB n (wrF l f) o j ≤ 255 := fun j hj => by
  unfold catB
  split
  · exact byte_range _ _ _
  · exact ho _ (by omega)
theorem wr_value {l : Bool} {f o : Nat → Int} {n i : Nat} (h : wrE l f n = 0) (hi : i < n) : lcV (catB (wide4 l * n) (wrF l f) o) l i = f i := by
  obtain ⟨h1, h2⟩ := wr_ok h
  have h0 := ok_nonneg h1 hi
  have h3 := allB_iff.1 h2 i hi
  unfold fitB at h3
  cases l
  · simp only [Bool.false_eq_true, if_false, Bool.and_eq_true, decide_eq_true_eq] at h3
    have e : ∀ t, t < 2 → catB (2 * n) (wrF false f) o (2 * i + t) = byteOf (f i / 2) 2 t := fun t ht => by
      unfold catB wrF
      rw [if_pos (by omega)]
      show byteOf (f ((2 * i + t) / 2) / 2) 2 ((2 * i + t) % 2) = _
      rw [show (2 * i + t) / 2 = i by omega, show (2 * i + t) % 2 = t by omega]
    show 2 * numAt (catB (2 * n) (wrF false f) o) (2 * i) 2 = f i
    simp only [numAt, e 0 (by omega), e 1 (by omega), byteOf, Nat.reduceSub, Nat.reduceMul, Int.reducePow]
    omega
  · simp only [if_true, decide_eq_true_eq] at h3
    have e : ∀ t, t < 4 → catB (4 * n) (wrF true f) o (4 * i + t) = byteOf (f i / 1) 4 t := fun t ht => by
      unfold catB wrF
      rw [if_pos (by omega)]
      show byteOf (f ((4 * i + t) / 4) / 1) 4 ((4 * i + t) % 4) = _
      rw [show (4 * i + t) / 4 = i by omega, show (4 * i + t) % 4 = t by omega]
    show 1 * numAt (catB (4 * n) (wrF true f) o) (4 * i) 4 = f i
    simp only [numAt, e 0 (by omega), e 1 (by omega), e 2 (by omega), e 3 (by omega), byteOf, Nat.reduceSub, Nat.reduceMul, Int.reducePow]
    omega
theorem back_rd {l : Bool} {f o : Nat → Int} {n m : Nat} (h : wrE l f n = 0) (hn : 1 ≤ n ∧ n ≤ 1025) : rdE (catB (wide4 l * n) (wrF l f) o) (wide4 l * n + m) l ((n : Int) - 1) = 0 ∧ rdN (catB (wide4 l * n) (wrF l f) o) (wide4 l * n + m) l ((n : Int) - 1) = n := by
  have e1 : rdE (catB (wide4 l * n) (wrF l f) o) (wide4 l * n + m) l ((n : Int) - 1) = 0 := by
    unfold rdE
    rw [if_neg (by omega), if_neg (by rw [show (n : Int) - 1 + 1 = n by omega]; simp only [Int.natCast_add, Int.natCast_mul, Int.not_lt]; exact Int.le_add_of_nonneg_right (by omega)), show ((n : Int) - 1).toNat + 1 = n by omega]
    have hA : allB (ascB (lcV (catB (wide4 l * n) (wrF l f) o) l)) n = true := by
      rw [allB_congr (q := ascB f) (fun j hj => ?_)]
      · exact ok_asc (wr_ok h).1
      · rcases j with _ | j
        · rw [asc_zero, asc_zero]
        · rw [asc_next, asc_next, wr_value h hj, wr_value h (by omega)]
    rw [hA]; rfl
  refine ⟨e1, ?_⟩
  unfold rdN
  rw [if_pos e1]
  omega
theorem back_read (l : Bool) (A : Option Addr) (c : Nat) (g : Nat → Int) (N : Nat) (x : Int) (w : World) (h : Rd w w.heap.size A N (U8 g)) (hg : ∀ j, j < N → 0 ≤ g j ∧ g j ≤ 255) (hx : In64 x) (hN : N ≤ 140737488355328) :
    Calls Try.prog 11 #[.slice A N c, .bool l, .int .i64 x] w (RdPost g N l x w) := by
  cases l
  · exact lo_read2 A N c g x w h hg hx hN
  · exact lo_read4 A N c g x w h hg hx hN
theorem any_write (l : Bool) (A : Option Addr) (n c : Nat) (f : Nat → Int) (w : World) (hn : n * 8 ≤ 140737488355328) (hf : ∀ j, j < n → In64 (f j)) (h : Rd w w.heap.size A n (I64 f)) :
    Calls Try.prog 15 #[.slice A n c, .bool l] w (WrPost l f n w) := by
  cases l
  · exact lo_write2 A n c f w hn hf h
  · exact lo_write4 A n c f w hn hf h
set_option maxHeartbeats 8000000 in
theorem walk_locaback (A B : Option Addr) (n c m d : Nat) (f o : Nat → Int) (l : Bool) (w : World) (h : Rd w w.heap.size A n (I64 f)) (hB : Rd w w.heap.size B m (U8 o)) (hf : ∀ j, j < n → In64 (f j)) (ho : ∀ j, j < m → 0 ≤ o j ∧ o j ≤ 255) (hn : n + m ≤ 1048576) :
    Calls Try.prog 5 #[.slice A n c, .bool l, .slice B m d] w fun e w' => e = .returned (.bool true) ∧ Since w w' := by
  obtain ⟨i0, hi0, hz0, hz1, hz2⟩ := info_parts Try.info_u8
  have hlen : n ≤ maxLen := by simp only [maxLen]; omega
  have hn' : (n : Int) ≤ 1048576 := by omega
  by_cases h1 : n < 1
  · have h1' : (n : Int) < 1 := by omega
    clear h hB
    go_enter Try.func5, Try.ntmps5
    go_wp2_with (go_at_call 9; (with_reducible refine (alive06 _).mono ?_); rintro e w1 ⟨rfl, hS1⟩)
    go_ret
    exact ⟨by first | rfl | simp, hS1⟩
  by_cases h2 : 1025 < n
  · have h2' : (1025 : Int) < n := by omega
    have h1' : (1 : Int) ≤ n := by omega
    clear h hB
    go_enter Try.func5, Try.ntmps5
    go_wp2_with (go_at_call 9; (with_reducible refine (alive06 _).mono ?_); rintro e w1 ⟨rfl, hS1⟩)
    go_ret
    exact ⟨by first | rfl | simp, hS1⟩
  have h1' : (1 : Int) ≤ n := by omega
  have h2' : (n : Int) ≤ 1025 := by omega
  have hW : ∀ w1, Since w w1 → Calls Try.prog 15 #[.slice A n c, .bool l] w1 (WrPost l f n w1) := fun w1 hS => any_write l A n c f w1 (by omega) hf (h.on hS)
  unfold WrPost at hW
  have hr := wrE_cases l f n
  rcases hr with hE | hE
  · have hK : wide4 l * n ≤ 4100 := by
      cases l
      · show 2 * n ≤ _; omega
      · show 4 * n ≤ _; omega
    obtain ⟨e1, e2⟩ := back_rd (o := o) (m := m) hE (by omega)
    have hcr : ∀ j, j < wide4 l * n + m → 0 ≤ catB (wide4 l * n) (wrF l f) o j ∧ catB (wide4 l * n) (wrF l f) o j ≤ 255 := cat_range ho
    have hv : ∀ j, j < n → I64 (lcV (catB (wide4 l * n) (wrF l f) o) l) j = I64 f j := fun j hj => by simp only [I64, IntRow]; rw [wr_value hE hj]
    have hRd : ∀ (A2 : Option Addr) (c2 : Nat) (w2 : World), Rd w2 w2.heap.size A2 (wide4 l * n + m) (U8 (catB (wide4 l * n) (wrF l f) o)) → Calls Try.prog 11 #[.slice A2 (wide4 l * n + m) c2, .bool l, .int .i64 ((n : Int) - 1)] w2 fun e w' => ∃ A' c', e = .returned (.tuple #[.slice A' n c', .int .i64 0]) ∧ Rd w' w'.heap.size A' n (I64 f) ∧ Since w2 w' := fun A2 c2 w2 hR => by
      refine (back_read l A2 c2 _ _ ((n : Int) - 1) w2 hR hcr (by unfold In64; omega) (by omega)).mono ?_
      rintro e w' ⟨A', c', rfl, hc', hr', hS'⟩
      rw [e2] at hr' ⊢
      rw [e1]
      exact ⟨A', c', rfl, hr'.congr hv, hS'⟩
    rw [wrN_yes hE, hE] at hW
    generalize wide4 l * n = K at *
    have H2 := Lib.hid hW; have HR := Lib.hid hRd
    clear hW hRd hcr hv e1 e2 hf ho
    have b1 : (K + m) * 1 ≤ 140737488355328 := by omega
    have b2 : K + m ≤ maxLen := by simp only [maxLen]; omega
    go_enter Try.func5, Try.ntmps5
    go_wp2_with (first | (go_at_call 9; (with_reducible refine (alive06 _).mono ?_); rintro e w1 ⟨rfl, hS1⟩) | (go_at_call 15; (with_reducible refine (H2.out w1 hS1).mono ?_); rintro e w2 ⟨A2, c2, rfl, hown2, hS2⟩; have hT2 := hS1.trans hS2; have hB2 := hB.on hT2; have hvb := (own_rd hown2).2.2; have q5 : w1.heap.size ≤ w2.heap.size := hS2.below.size) | (at_builtin; refine wpList_append_any _ (by rfl) _ _ _ (by rfl) w1.heap.size 5 i0 _ 1 Try.underlying22 hi0 hz0 hz1 hz2 (by rfl) _ K _ (by rfl) hown2 _ B m d (U8 o) (by rfl) hB2 tab_ones b1 b2 q5 ?_; intro v' w3 hown3 hgr3; have hS3 : Since w1 w3 := since_grown hS2 hgr3 hvb; rw [cat_bytes] at hown3; obtain ⟨A3, c3, rfl, hc3, hR3, _⟩ := own_any hown3; clear hown2 hown3 hgr3 hvb hB2 q5; have hT3 := hS1.trans hS3) | (go_at_call 11; (with_reducible refine (HR.out _ _ _ hR3).mono ?_); rintro e w4 ⟨A4, c4, rfl, hR4, hS4⟩; have hT4 := hT3.trans hS4; have h4 := h.on hT4; clear hR3) | (go_at_call 13; refine (ref_ints _ _ n _ _ f w4 hR4 h4 hlen).mono ?_; rintro e w8 ⟨rfl, hS8⟩; have hT8 := hT4.trans hS8))
    go_ret
    exact ⟨by first | rfl | simp, hT8⟩
  · have hne : wrE l f n ≠ 0 := by rcases hE with hE | hE <;> rw [hE] <;> decide
    rw [wrN_no hne] at hW
    clear hne
    generalize wrE l f n = E at *
    have H2 := Lib.hid hW
    clear hW h hf hB ho
    rcases hE with rfl | rfl
    all_goals
      go_enter Try.func5, Try.ntmps5
      go_wp2_with (first | (go_at_call 9; (with_reducible refine (alive06 _).mono ?_); rintro e w1 ⟨rfl, hS1⟩) | (go_at_call 15; (with_reducible refine (H2.out w1 hS1).mono ?_); rintro e w2 ⟨A2, c2, rfl, _, hS2⟩; have hT2 := hS1.trans hS2))
      go_ret
      exact ⟨by first | rfl | simp, hT2⟩
end Go.Proofs.Ytefalfdillnkfaa
