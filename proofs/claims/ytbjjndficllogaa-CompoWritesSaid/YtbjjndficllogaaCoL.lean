/-
  Layer 8: numbers, writeMatrix, writePart, walked.
-/
import Derived.Test.YtbjjndficllogaaCoJ
import Derived.Test.YtbjjndficllogaaCoK
import Derived.ChangeKeysEq
namespace Go.Proofs.Ytbjjndficllogaa
open Go.RowKit Go.ChangeShapes Go.WideShapes Go.Deep
set_option linter.unusedVariables false
set_option linter.unusedSimpArgs false

/-- What a function that makes bytes leaves. -/
def MkB (X : List Int) (w : World) (e : Ending) (w' : World) : Prop := ∃ v, e = .returned v ∧ OwnB w' w.heap.size v X ∧ Since w w'
set_option maxRecDepth 100000 in
set_option maxHeartbeats 8000000 in
theorem co_numbers (A : Option Addr) (n c : Nat) (L : List Int) (w : World) (h : RdI w w.heap.size A L) (hL : n = L.length) (hn : n ≤ 1000) (hin : ∀ x ∈ L, In64 x) :
    Calls Try.prog 59 #[.slice A n c] w (MkB (nums8 L) w) := by
  have HL := Lib.hid hL
  have H0 := Lib.hid h
  have HIN := Lib.hid hin
  clear hL h hin
  go_enter Try.func59, Try.ntmps59
  go_wp2
  go_loopw [3, 8] (fun v y wr => ∃ j : Nat, j ≤ n ∧ y = .int .i64 (j : Int) ∧ OwnB wr w.heap.size v (nums8 (L.take j)) ∧ Since w wr) (fun _ y _ => n - (intOf y).toNat)
  case atStart => exact ⟨0, by omega, rfl, OwnG.nil _ _ _ _ _, Since.refl _⟩
  case round =>
    obtain ⟨j, hj, rfl, hO0, hS0⟩ := hrel
    by_cases hjn : j < n
    · have hjn' : (j : Int) < n := by omega
      obtain ⟨q, hq, hmq, htk⟩ := tn_step (show j < L.length by rw [← HL.out]; exact hjn)
      obtain ⟨b, o, rfl, hb, hc⟩ := (H0.out.on hS0) (by rw [← HL.out]; omega)
      have c0 := hc j q hq 0 (by omega)
      rw [Nat.mul_one, Nat.add_zero] at c0
      have c1 : wr.cell? ⟨b, o + j, none⟩ = some (.int .i64 q) := c0
      have hIq := HIN.out q hmq
      have HX := Lib.hid (show nums8 (L.take j) ++ putL q 2 = nums8 (L.take (j + 1)) by rw [htk, nums8_snoc])
      have hXl : (nums8 (L.take j)).length ≤ 2000 := by rw [nums8_len, List.length_take]; omega
      obtain ⟨X, hX⟩ : ∃ X, X = nums8 (L.take j) := ⟨_, rfl⟩
      rw [← hX] at hO0 hXl HX
      clear c0 hc hq hmq htk hX
      have tk1 := True.intro
      go_wp2_with (first | (go_at_call 44; have _t := tk1; (with_reducible refine (put_l 2 _ _ _ hIq (by omega) (by omega)).mono ?_); rintro e wp1 ⟨gp1, rfl, hg1, hr1, hp1⟩; have hSp1 := hS0.trans hp1; have hOp1 := hO0.since hp1; clear tk1 hp1 hg1; have ta1 := True.intro) | (at_builtin; have _t := ta1; refine wpList_append_b2 rfl _ _ rfl hSp1 _ (X) rfl hOp1 _ (some ⟨gp1, 0, none⟩) 2 2 (putL _ 2) (putL_len _ _).symm rfl hr1 (by simp only [List.length_append, putL_len]; omega) ?_; intro v1 w1 hO1 hS1 hgr1; clear ta1 hr1 hSp1 hOp1 hgr1; have tk2 := True.intro))
      go_roundw
      case rel => exact ⟨j + 1, by omega, by go_num, own_app hO1 HX.out, hS1⟩
      case measure => simp [intOf]; omega
    · obtain rfl : j = n := by omega
      go_wp2
      go_ret
      have e : L.take j = L := by rw [HL.out]; exact List.take_length
      rw [e] at hO0
      exact ⟨_, rfl, hO0, hS0⟩
theorem eq_four (w : World) (x0 x1 x2 x3 y0 y1 y2 y3 : Int) :
    (Op.equalIn 10000 90 (.agg #[.int .i64 x0, .int .i64 x1, .int .i64 x2, .int .i64 x3]) (.agg #[.int .i64 y0, .int .i64 y1, .int .i64 y2, .int .i64 y3])).run Try.prog w = .ok (x0 == y0 && (x1 == y1 && (x2 == y2 && x3 == y3))) w := by
  obtain ⟨i, hi⟩ : ∃ i, Try.prog.info? 3 = some i := Option.isSome_iff_exists.1 (by kernel_rfl)
  rw [run_equalIn_array w 9999 (e := 3) (n := 4) (i := i) _ _ Try.underlying90 hi]
  have hc : Try.prog.cellsOf 3 = 1 := by kernel_rfl
  rw [hc]
  have hl : List.range 4 = [0, 1, 2, 3] := rfl
  rw [hl]
  have heq : ∀ (d : Nat) (a b : Int), (Op.equalIn (d + 1) 3 (.int .i64 a) (.int .i64 b)).run Try.prog w = .ok (a == b) w := fun d a b => run_equalIn_int w d _ _ _ a b Try.underlying3
  simp only [Op.eqItems]
  by_cases h0 : x0 = y0
  · by_cases h1 : x1 = y1
    · by_cases h2 : x2 = y2
      · by_cases h3 : x3 = y3
        · simp [go_sem, h0, h1, h2, h3]
        · simp [go_sem, h0, h1, h2, h3]
      · simp [go_sem, h0, h1, h2]
    · simp [go_sem, h0, h1]
  · simp [go_sem, h0]
attribute [go_sem] eq_four
/-- What 'writeMatrix' leaves. -/
def WmPost (F : Int) (X : List Int) (w : World) (e : Ending) (w' : World) : Prop := ∃ v, e = .returned (.tuple #[.int .i64 F, v]) ∧ OwnB w' w.heap.size v X ∧ Since w w'
set_option maxRecDepth 100000 in
set_option maxHeartbeats 8000000 in
theorem co_wmat (P : Pt8) (w : World) (hok : P8Ok P) : Calls Try.prog 77 #[.agg #[.int .i64 P.m0, .int .i64 P.m1, .int .i64 P.m2, .int .i64 P.m3]] w (WmPost (turnF P) (nums8 (turnN P)) w) := by
  have hin := turn_in hok
  obtain ⟨g, x, y, m0, m1, m2, m3⟩ := P
  simp only
  have HN := Lib.hid fun (A : Option Addr) (n : Nat) (L : List Int) (w2 : World) (hS : Since w w2) (h : RdI w2 w2.heap.size A L) (hL : n = L.length) (hn : n ≤ 1000) (hi : ∀ x ∈ L, In64 x) (c : Nat) => (co_numbers A n c L w2 h hL hn hi)
  have hrd : ∀ ty, RdI (w.alloc (.cells #[.int .i64 m0, .int .i64 m1, .int .i64 m2, .int .i64 m3] ty)) (w.alloc (.cells #[.int .i64 m0, .int .i64 m1, .int .i64 m2, .int .i64 m3] ty)).heap.size (some ⟨w.heap.size, 0, none⟩) [m0, m1, m2, m3] := fun ty => rdi_new w _ rfl ty _ _ rfl
  have c1 : (m1 ≠ 0 ∨ (m1 = 0 ∧ m2 ≠ 0)) ∨ (m1 = 0 ∧ m2 = 0 ∧ m0 ≠ m3) ∨ (m1 = 0 ∧ m2 = 0 ∧ m0 = m3 ∧ m0 ≠ 16384) ∨ (m1 = 0 ∧ m2 = 0 ∧ m0 = m3 ∧ m0 = 16384) := by omega
  rcases c1 with h12 | ⟨h1, h2, h3⟩ | ⟨h1, h2, h3, h4⟩ | ⟨h1, h2, h3, h4⟩
  · have EF : turnF ⟨g, x, y, m0, m1, m2, m3⟩ = 128 := by unfold turnF; rw [if_pos (by simp only; omega)]
    have EN : turnN ⟨g, x, y, m0, m1, m2, m3⟩ = [m0, m1, m2, m3] := by unfold turnN; rw [if_pos (by simp only; omega)]
    rw [EN] at hin
    rw [EF, EN]
    clear EF EN
    have HI := Lib.hid hin
    rcases h12 with h1 | ⟨h1, h2⟩
    · have d1 : (m1 != 0) = true := by simpa using h1
      have d2 : (m1 == 0) = false := by simpa using h1
      clear h1 hin
      go_enter Try.func77, Try.ntmps77
      go_wp2_with (go_at_call 59; (with_reducible refine (HN.out _ 4 [m0, m1, m2, m3] _ (by (repeat (first | with_reducible (exact Since.refl _) | with_reducible assumption | with_reducible (refine Since.drew ?_) | with_reducible (refine Since.drewN ?_ _) | with_reducible (refine Since.alloc ?_ _) | (with_reducible (refine Since.setCell ?_ ?_ _); rotate_left; focus (first | (simp; done) | (simp; omega) | omega)) | (with_reducible (refine Since.trans ?_ (by with_reducible assumption)))))) (hrd _) (by simp) (by omega) HI.out _).mono ?_); rintro e w2 ⟨v, rfl, hO, hS⟩; have hT : Since w w2 := (by (repeat (first | with_reducible (exact Since.refl _) | with_reducible assumption | with_reducible (refine Since.drew ?_) | with_reducible (refine Since.drewN ?_ _) | with_reducible (refine Since.alloc ?_ _) | (with_reducible (refine Since.setCell ?_ ?_ _); rotate_left; focus (first | (simp; done) | (simp; omega) | omega)) | (with_reducible (refine Since.trans ?_ (by with_reducible assumption)))))))
      go_ret2
      exact ⟨_, rfl, hO.low (by simp; try omega), hT⟩
    · subst h1
      have d1 : (m2 != 0) = true := by simpa using h2
      have d2 : (m2 == 0) = false := by simpa using h2
      clear h2 hin
      go_enter Try.func77, Try.ntmps77
      go_wp2_with (go_at_call 59; (with_reducible refine (HN.out _ 4 [m0, 0, m2, m3] _ (by (repeat (first | with_reducible (exact Since.refl _) | with_reducible assumption | with_reducible (refine Since.drew ?_) | with_reducible (refine Since.drewN ?_ _) | with_reducible (refine Since.alloc ?_ _) | (with_reducible (refine Since.setCell ?_ ?_ _); rotate_left; focus (first | (simp; done) | (simp; omega) | omega)) | (with_reducible (refine Since.trans ?_ (by with_reducible assumption)))))) (hrd _) (by simp) (by omega) HI.out _).mono ?_); rintro e w2 ⟨v, rfl, hO, hS⟩; have hT : Since w w2 := (by (repeat (first | with_reducible (exact Since.refl _) | with_reducible assumption | with_reducible (refine Since.drew ?_) | with_reducible (refine Since.drewN ?_ _) | with_reducible (refine Since.alloc ?_ _) | (with_reducible (refine Since.setCell ?_ ?_ _); rotate_left; focus (first | (simp; done) | (simp; omega) | omega)) | (with_reducible (refine Since.trans ?_ (by with_reducible assumption)))))))
      go_ret2
      exact ⟨_, rfl, hO.low (by simp; try omega), hT⟩
  · subst h1 h2
    have EF : turnF ⟨g, x, y, m0, 0, 0, m3⟩ = 64 := by unfold turnF; rw [if_neg (by simp only; omega), if_pos (by simpa using h3)]
    have EN : turnN ⟨g, x, y, m0, 0, 0, m3⟩ = [m0, m3] := by unfold turnN; rw [if_neg (by simp only; omega), if_pos (by simpa using h3)]
    rw [EN] at hin
    rw [EF, EN]
    have d1 : (m0 == m3) = false := by simpa using h3
    have d2 : (m0 == 16384 && m3 == 16384) = false := by
      rw [Bool.and_eq_false_iff]
      by_cases e : m0 = 16384
      · right; subst e; simpa using fun e => h3 e.symm
      · left; simpa using e
    have HI := Lib.hid hin
    clear EF EN h3 hin
    go_enter Try.func77, Try.ntmps77
    go_wp2_with (go_at_call 59; (with_reducible refine (HN.out _ 2 [m0, m3] _ (by (repeat (first | with_reducible (exact Since.refl _) | with_reducible assumption | with_reducible (refine Since.drew ?_) | with_reducible (refine Since.drewN ?_ _) | with_reducible (refine Since.alloc ?_ _) | (with_reducible (refine Since.setCell ?_ ?_ _); rotate_left; focus (first | (simp; done) | (simp; omega) | omega)) | (with_reducible (refine Since.trans ?_ (by with_reducible assumption)))))) (rdi_new _ _ (by simp) _ _ [m0, m3] (by simp)) (by simp) (by omega) HI.out _).mono ?_); rintro e w2 ⟨v, rfl, hO, hS⟩; have hT : Since w w2 := (by (repeat (first | with_reducible (exact Since.refl _) | with_reducible assumption | with_reducible (refine Since.drew ?_) | with_reducible (refine Since.drewN ?_ _) | with_reducible (refine Since.alloc ?_ _) | (with_reducible (refine Since.setCell ?_ ?_ _); rotate_left; focus (first | (simp; done) | (simp; omega) | omega)) | (with_reducible (refine Since.trans ?_ (by with_reducible assumption)))))))
    go_ret2
    exact ⟨_, rfl, hO.low (by simp; try omega), hT⟩
  · subst h1 h2 h3
    have EF : turnF ⟨g, x, y, m0, 0, 0, m0⟩ = 8 := by unfold turnF; rw [if_neg (by simp only; omega), if_neg (by simp only; omega), if_pos (by simpa using h4)]
    have EN : turnN ⟨g, x, y, m0, 0, 0, m0⟩ = [m0] := by unfold turnN; rw [if_neg (by simp only; omega), if_neg (by simp only; omega), if_pos (by simpa using h4)]
    rw [EN] at hin
    rw [EF, EN]
    have d1 : (m0 == 16384) = false := by simpa using h4
    have HI := Lib.hid hin
    clear EF EN h4 hin
    go_enter Try.func77, Try.ntmps77
    go_wp2_with (go_at_call 59; (with_reducible refine (HN.out _ 1 [m0] _ (by (repeat (first | with_reducible (exact Since.refl _) | with_reducible assumption | with_reducible (refine Since.drew ?_) | with_reducible (refine Since.drewN ?_ _) | with_reducible (refine Since.alloc ?_ _) | (with_reducible (refine Since.setCell ?_ ?_ _); rotate_left; focus (first | (simp; done) | (simp; omega) | omega)) | (with_reducible (refine Since.trans ?_ (by with_reducible assumption)))))) (rdi_new _ _ (by simp) _ _ [m0] (by simp)) (by simp) (by omega) HI.out _).mono ?_); rintro e w2 ⟨v, rfl, hO, hS⟩; have hT : Since w w2 := (by (repeat (first | with_reducible (exact Since.refl _) | with_reducible assumption | with_reducible (refine Since.drew ?_) | with_reducible (refine Since.drewN ?_ _) | with_reducible (refine Since.alloc ?_ _) | (with_reducible (refine Since.setCell ?_ ?_ _); rotate_left; focus (first | (simp; done) | (simp; omega) | omega)) | (with_reducible (refine Since.trans ?_ (by with_reducible assumption)))))))
    go_ret2
    exact ⟨_, rfl, hO.low (by simp; try omega), hT⟩
  · subst h1 h2 h3 h4
    have EF : turnF ⟨g, x, y, 16384, 0, 0, 16384⟩ = 0 := rfl
    have EN : turnN ⟨g, x, y, 16384, 0, 0, 16384⟩ = [] := rfl
    rw [EF, EN]
    clear EF EN hin hok
    go_enter Try.func77, Try.ntmps77
    go_wp2_with fail
    go_ret2
    exact ⟨_, rfl, OwnG.nil _ _ _ _ _, by (repeat (first | with_reducible (exact Since.refl _) | with_reducible assumption | with_reducible (refine Since.drew ?_) | with_reducible (refine Since.drewN ?_ _) | with_reducible (refine Since.alloc ?_ _) | (with_reducible (refine Since.setCell ?_ ?_ _); rotate_left; focus (first | (simp; done) | (simp; omega) | omega)) | (with_reducible (refine Since.trans ?_ (by with_reducible assumption)))))⟩
theorem or_flags (tf t ww : Int) (h1 : tf = 0 ∨ tf = 8 ∨ tf = 64 ∨ tf = 128) (h2 : t = 0 ∨ t = 32 ∨ t = 256) (h3 : ww = 0 ∨ ww = 1) : bits .or .i64 t 2 = t + 2 ∧ bits .or .i64 (t + 2) 1 = t + 2 + 1 ∧ bits .or .i64 (t + 2 + ww) tf = tf + 2 + ww + t := by
  rcases h1 with rfl | rfl | rfl | rfl <;> rcases h2 with rfl | rfl | rfl <;> rcases h3 with rfl | rfl <;> decide
theorem turnF_or (P : Pt8) : turnF P = 0 ∨ turnF P = 8 ∨ turnF P = 64 ∨ turnF P = 128 := by
  rcases turn_cases P with ⟨a, _⟩ | ⟨a, _⟩ | ⟨a, _⟩ | ⟨a, _⟩ <;> omega
set_option maxRecDepth 100000 in
set_option maxHeartbeats 8000000 in
theorem co_wpart (P : Pt8) (t : Int) (w : World) (hok : P8Ok P) (ht : t = 0 ∨ t = 32 ∨ t = 256) :
    Calls Try.prog 60 #[.agg #[.int .i64 P.g, .int .i64 P.x, .int .i64 P.y, .int .i64 P.m0, .int .i64 P.m1, .int .i64 P.m2, .int .i64 P.m3], .int .i64 t] w (MkB (part8 P t) w) := by
  have hWM := fun w2 => co_wmat P w2 hok
  have hF := turnF_or P
  have HPB := Lib.hid (show part8 P t = ((nums8 [flag8 P t, P.g] ++ putL P.x (wid8 P)) ++ putL P.y (wid8 P)) ++ nums8 (turnN P) by unfold part8 nums8; simp [List.append_assoc])
  have htb : 0 ≤ t ∧ t ≤ 256 := by omega
  have hwd8 : 1 ≤ wid8 P ∧ wid8 P ≤ 2 := by unfold wid8; split <;> omega
  have hnl := (turn_rng P).2.2
  have HWI := Lib.hid (show (Wide8 P → wid8 P = 2) ∧ (¬ Wide8 P → wid8 P = 1) from ⟨fun h => by unfold wid8; rw [if_pos h], fun h => by unfold wid8; rw [if_neg h]⟩)
  have HFL := Lib.hid (show (Wide8 P → flag8 P t = turnF P + 2 + 1 + t) ∧ (¬ Wide8 P → flag8 P t = turnF P + 2 + 0 + t) from ⟨fun h => by unfold flag8; rw [if_pos h], fun h => by unfold flag8; rw [if_neg h]⟩)
  have HW8 := Lib.hid (show Wide8 P ↔ (P.x < -128 ∨ 127 < P.x ∨ P.y < -128 ∨ 127 < P.y) from Iff.rfl)
  obtain ⟨⟨k0, k1⟩, s1, s2, _⟩ := id hok
  have hIx := sh_in s1
  have hIy := sh_in s2
  have hIg : In64 P.g := by unfold In64; omega
  obtain ⟨tn, htn⟩ : ∃ tn, tn = turnN P := ⟨_, rfl⟩
  obtain ⟨tf, htf⟩ : ∃ tf, tf = turnF P := ⟨_, rfl⟩
  obtain ⟨wd, hwd⟩ : ∃ wd, wd = wid8 P := ⟨_, rfl⟩
  obtain ⟨fl, hfl⟩ : ∃ fl, fl = flag8 P t := ⟨_, rfl⟩
  rw [← htn] at hnl
  simp only [← htn, ← htf, ← hwd, ← hfl] at hWM hF HPB hwd8 HWI HFL
  have hor := fun ww h => or_flags tf t ww hF ht h
  have htfb : 0 ≤ tf ∧ tf ≤ 128 := by omega
  clear htn htf hwd hfl hF ht hok
  obtain ⟨Q, hQ⟩ : ∃ Q : Prop, Q = Wide8 P := ⟨_, rfl⟩
  rw [← hQ] at HWI HFL HW8
  obtain ⟨g, x, y, a0, a1, a2, a3⟩ := P
  have hlt0 : w.heap.size < w.heap.size + 1 := by omega
  have HWM := Lib.hid hWM
  have HOR := Lib.hid hor
  simp only at HPB HW8 hIx hIy hIg
  clear hWM hor k0 k1 s1 s2 hQ
  have hIf : In64 fl := by
    by_cases q : Q
    · rw [HFL.out.1 q]; unfold In64; omega
    · rw [HFL.out.2 q]; unfold In64; omega
  have HIN2 := Lib.hid (show ∀ v ∈ [fl, g], In64 v from by
    intro v hv
    simp only [List.mem_cons, List.not_mem_nil, or_false] at hv
    rcases hv with rfl | rfl <;> assumption)
  by_cases hq : Q
  · have hw := HW8.out.1 hq
    have o1 := (HOR.out 1 (.inr rfl)).1
    have o2 := (HOR.out 1 (.inr rfl)).2.1
    have o3 := (HOR.out 1 (.inr rfl)).2.2
    have HFE := Lib.hid (HFL.out.1 hq)
    have hfe : tf + 2 + 1 + t = fl := (HFL.out.1 hq).symm
    rw [hfe] at o3
    have hwd : wd = 2 := HWI.out.1 hq
    subst hwd
    clear hfe hq hIf hIg
    go_enter Try.func60, Try.ntmps60
    go_upto_region 3 with fail
    refine wp_named fun wa hwa => ?_
    go_cut [24] (fun z wx => z = .bool true ∧ wx = wa)
    case first =>
      subst hwa
      have hw8 : x < -128 ∨ (-128 ≤ x ∧ 127 < x) ∨ ((-128 ≤ x ∧ x ≤ 127) ∧ y < -128) ∨ ((-128 ≤ x ∧ x ≤ 127) ∧ -128 ≤ y ∧ 127 < y) := by omega
      clear hw
      by_cases hmx : 127 < max x y
      · go_wp2_with fail
        all_goals (go_meet; exact ⟨by first | rfl | (simp; done) | (simp; omega), rfl⟩)
      · have hmn : min x y < -128 := by omega
        go_wp2_with fail
        all_goals (go_meet; exact ⟨by first | rfl | (simp; done) | (simp; omega), rfl⟩)
    obtain ⟨rfl, hw9⟩ := hcut
    have hw8 := hw9.symm
    subst hw8
    subst hwa
    clear hw9 hw
    go_wp2_with (first | (go_at_call 77; (with_reducible refine (HWM.out _).mono ?_); rintro e wM ⟨vm, rfl, hOM, hSM⟩; have hTM : Since w wM := (by (repeat (first | with_reducible (exact Since.refl _) | with_reducible assumption | with_reducible (refine Since.drew ?_) | with_reducible (refine Since.drewN ?_ _) | with_reducible (refine Since.alloc ?_ _) | (with_reducible (refine Since.setCell ?_ ?_ _); rotate_left; focus (first | (simp; done) | (simp; omega) | omega)) | (with_reducible (refine Since.trans ?_ (by with_reducible assumption)))))); have hltM := hSM.2.2.1 w.heap.size (by simp); have gM0 : wM.cell? ⟨w.heap.size, 0, none⟩ = some (.int .i64 g) := (hSM.1 _ _ (by simp)).trans (by simp); have gM1 : wM.cell? ⟨w.heap.size, 1, none⟩ = some (.int .i64 x) := (hSM.1 _ _ (by simp)).trans (by simp); have gM2 : wM.cell? ⟨w.heap.size, 2, none⟩ = some (.int .i64 y) := (hSM.1 _ _ (by simp)).trans (by simp); obtain ⟨Am, cm, rfl, hcm, hRm⟩ := hOM.rd (by omega) byL_len; clear hSM hOM) | (go_at_call 59; (with_reducible refine (co_numbers _ 2 _ [fl, g] _ (rdi_new wM _ rfl _ _ [fl, g] (by rw [HFE.out]; simp)) (by simp) (by omega) HIN2.out).mono ?_); rintro e w0 ⟨v0, rfl, hO0, hS0⟩; have hS0 : Since wM w0 := (by (repeat (first | with_reducible (exact Since.refl _) | with_reducible assumption | with_reducible (refine Since.drew ?_) | with_reducible (refine Since.drewN ?_ _) | with_reducible (refine Since.alloc ?_ _) | (with_reducible (refine Since.setCell ?_ ?_ _); rotate_left; focus (first | (simp; done) | (simp; omega) | omega)) | (with_reducible (refine Since.trans ?_ (by with_reducible assumption)))))); have hO0 := hO0.low (base' := wM.heap.size) (by simp); have g1 := (hS0.1 w.heap.size 1 hltM).trans gM1; have g2 := (hS0.1 w.heap.size 2 hltM).trans gM2; have tk1 := True.intro) | (go_at_call 44; have _t := tk1; (with_reducible refine (put_l 2 _ _ _ hIx (by omega) (by omega)).mono ?_); rintro e wp1 ⟨gp1, rfl, hg1, hr1, hp1⟩; have hSp1 := hS0.trans hp1; have hOp1 := hO0.since hp1; clear g1 g2; have g1 := (hSp1.1 w.heap.size 1 hltM).trans gM1; have g2 := (hSp1.1 w.heap.size 2 hltM).trans gM2; clear tk1 hp1 hg1; have ta1 := True.intro) | (at_builtin; have _t := ta1; refine wpList_append_b2 rfl _ _ rfl hSp1 _ (nums8 [fl, g]) rfl hOp1 _ (some ⟨gp1, 0, none⟩) 2 2 (putL _ 2) (putL_len _ _).symm rfl hr1 (by simp only [List.length_append, putL_len, nums8_len, List.length_cons, List.length_nil]; omega) ?_; intro v1 w1 hO1 hS1 hgr1; clear g1 g2; have g1 := (hS1.1 w.heap.size 1 hltM).trans gM1; have g2 := (hS1.1 w.heap.size 2 hltM).trans gM2; clear ta1 hr1 hSp1 hOp1 hgr1; have tk2 := True.intro) | (go_at_call 44; have _t := tk2; (with_reducible refine (put_l 2 _ _ _ hIy (by omega) (by omega)).mono ?_); rintro e wp2 ⟨gp2, rfl, hg2, hr2, hp2⟩; have hSp2 := hS1.trans hp2; have hOp2 := hO1.since hp2; clear g1 g2; have g1 := (hSp2.1 w.heap.size 1 hltM).trans gM1; have g2 := (hSp2.1 w.heap.size 2 hltM).trans gM2; clear tk2 hp2 hg2; have ta2 := True.intro) | (at_builtin; have _t := ta2; refine wpList_append_b2 rfl _ _ rfl hSp2 _ (nums8 [fl, g] ++ putL x 2) rfl hOp2 _ (some ⟨gp2, 0, none⟩) 2 2 (putL _ 2) (putL_len _ _).symm rfl hr2 (by simp only [List.length_append, putL_len, nums8_len, List.length_cons, List.length_nil]; omega) ?_; intro v2 w2 hO2 hS2 hgr2; clear g1 g2; have g1 := (hS2.1 w.heap.size 1 hltM).trans gM1; have g2 := (hS2.1 w.heap.size 2 hltM).trans gM2; clear ta2 hr2 hSp2 hOp2 hgr2; have tk3 := True.intro) | (at_builtin; have _t := tk3; refine wpList_append_b2 rfl _ _ rfl hS2 _ ((nums8 [fl, g] ++ putL x 2) ++ putL y 2) rfl hO2 _ Am _ cm (nums8 tn) rfl rfl (hRm.on hS2) (by simp only [List.length_append, putL_len, nums8_len, List.length_cons, List.length_nil]; omega) ?_; intro v9 w9 hO9 hS9 hgr9; clear tk3))
    go_ret
    exact ⟨_, rfl, own_app (hO9.low hTM.below.size) HPB.out.symm, hTM.trans hS9⟩
  · have hw := (show ¬ (x < -128 ∨ 127 < x ∨ y < -128 ∨ 127 < y) from fun k => hq (HW8.out.2 k))
    have o1 := (HOR.out 0 (.inl rfl)).1
    have o3 := (HOR.out 0 (.inl rfl)).2.2
    have HFE := Lib.hid (HFL.out.2 hq)
    have hfe : tf + 2 + 0 + t = fl := (HFL.out.2 hq).symm
    rw [hfe, Int.add_zero] at o3
    have hwd : wd = 1 := HWI.out.2 hq
    subst hwd
    clear hfe hq hIf hIg
    go_enter Try.func60, Try.ntmps60
    go_upto_region 3 with fail
    refine wp_named fun wa hwa => ?_
    go_cut [24] (fun z wx => z = .bool false ∧ wx = wa)
    case first =>
      subst hwa
      have hmx : ¬ 127 < max x y := by omega
      have hmn : ¬ min x y < -128 := by omega
      clear hw
      go_wp2_with fail
      all_goals (go_meet; exact ⟨by first | rfl | (simp; done) | (simp; omega), rfl⟩)
    obtain ⟨rfl, hw9⟩ := hcut
    have hw8 := hw9.symm
    subst hw8
    subst hwa
    clear hw9 hw
    go_wp2_with (first | (go_at_call 77; (with_reducible refine (HWM.out _).mono ?_); rintro e wM ⟨vm, rfl, hOM, hSM⟩; have hTM : Since w wM := (by (repeat (first | with_reducible (exact Since.refl _) | with_reducible assumption | with_reducible (refine Since.drew ?_) | with_reducible (refine Since.drewN ?_ _) | with_reducible (refine Since.alloc ?_ _) | (with_reducible (refine Since.setCell ?_ ?_ _); rotate_left; focus (first | (simp; done) | (simp; omega) | omega)) | (with_reducible (refine Since.trans ?_ (by with_reducible assumption)))))); have hltM := hSM.2.2.1 w.heap.size (by simp); have gM0 : wM.cell? ⟨w.heap.size, 0, none⟩ = some (.int .i64 g) := (hSM.1 _ _ (by simp)).trans (by simp); have gM1 : wM.cell? ⟨w.heap.size, 1, none⟩ = some (.int .i64 x) := (hSM.1 _ _ (by simp)).trans (by simp); have gM2 : wM.cell? ⟨w.heap.size, 2, none⟩ = some (.int .i64 y) := (hSM.1 _ _ (by simp)).trans (by simp); obtain ⟨Am, cm, rfl, hcm, hRm⟩ := hOM.rd (by omega) byL_len; clear hSM hOM) | (go_at_call 59; (with_reducible refine (co_numbers _ 2 _ [fl, g] _ (rdi_new wM _ rfl _ _ [fl, g] (by rw [HFE.out]; simp)) (by simp) (by omega) HIN2.out).mono ?_); rintro e w0 ⟨v0, rfl, hO0, hS0⟩; have hS0 : Since wM w0 := (by (repeat (first | with_reducible (exact Since.refl _) | with_reducible assumption | with_reducible (refine Since.drew ?_) | with_reducible (refine Since.drewN ?_ _) | with_reducible (refine Since.alloc ?_ _) | (with_reducible (refine Since.setCell ?_ ?_ _); rotate_left; focus (first | (simp; done) | (simp; omega) | omega)) | (with_reducible (refine Since.trans ?_ (by with_reducible assumption)))))); have hO0 := hO0.low (base' := wM.heap.size) (by simp); have g1 := (hS0.1 w.heap.size 1 hltM).trans gM1; have g2 := (hS0.1 w.heap.size 2 hltM).trans gM2; have tk1 := True.intro) | (go_at_call 44; have _t := tk1; (with_reducible refine (put_l 1 _ _ _ hIx (by omega) (by omega)).mono ?_); rintro e wp1 ⟨gp1, rfl, hg1, hr1, hp1⟩; have hSp1 := hS0.trans hp1; have hOp1 := hO0.since hp1; clear g1 g2; have g1 := (hSp1.1 w.heap.size 1 hltM).trans gM1; have g2 := (hSp1.1 w.heap.size 2 hltM).trans gM2; clear tk1 hp1 hg1; have ta1 := True.intro) | (at_builtin; have _t := ta1; refine wpList_append_b2 rfl _ _ rfl hSp1 _ (nums8 [fl, g]) rfl hOp1 _ (some ⟨gp1, 0, none⟩) 1 1 (putL _ 1) (putL_len _ _).symm rfl hr1 (by simp only [List.length_append, putL_len, nums8_len, List.length_cons, List.length_nil]; omega) ?_; intro v1 w1 hO1 hS1 hgr1; clear g1 g2; have g1 := (hS1.1 w.heap.size 1 hltM).trans gM1; have g2 := (hS1.1 w.heap.size 2 hltM).trans gM2; clear ta1 hr1 hSp1 hOp1 hgr1; have tk2 := True.intro) | (go_at_call 44; have _t := tk2; (with_reducible refine (put_l 1 _ _ _ hIy (by omega) (by omega)).mono ?_); rintro e wp2 ⟨gp2, rfl, hg2, hr2, hp2⟩; have hSp2 := hS1.trans hp2; have hOp2 := hO1.since hp2; clear g1 g2; have g1 := (hSp2.1 w.heap.size 1 hltM).trans gM1; have g2 := (hSp2.1 w.heap.size 2 hltM).trans gM2; clear tk2 hp2 hg2; have ta2 := True.intro) | (at_builtin; have _t := ta2; refine wpList_append_b2 rfl _ _ rfl hSp2 _ (nums8 [fl, g] ++ putL x 1) rfl hOp2 _ (some ⟨gp2, 0, none⟩) 1 1 (putL _ 1) (putL_len _ _).symm rfl hr2 (by simp only [List.length_append, putL_len, nums8_len, List.length_cons, List.length_nil]; omega) ?_; intro v2 w2 hO2 hS2 hgr2; clear g1 g2; have g1 := (hS2.1 w.heap.size 1 hltM).trans gM1; have g2 := (hS2.1 w.heap.size 2 hltM).trans gM2; clear ta2 hr2 hSp2 hOp2 hgr2; have tk3 := True.intro) | (at_builtin; have _t := tk3; refine wpList_append_b2 rfl _ _ rfl hS2 _ ((nums8 [fl, g] ++ putL x 1) ++ putL y 1) rfl hO2 _ Am _ cm (nums8 tn) rfl rfl (hRm.on hS2) (by simp only [List.length_append, putL_len, nums8_len, List.length_cons, List.length_nil]; omega) ?_; intro v9 w9 hO9 hS9 hgr9; clear tk3))
    go_ret
    exact ⟨_, rfl, own_app (hO9.low hTM.below.size) HPB.out.symm, hTM.trans hS9⟩
end Go.Proofs.Ytbjjndficllogaa
