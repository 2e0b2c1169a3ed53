/-
  Layer 12: the law ExpandSimple, walked.
-/
import Derived.Test.YtcjjcjpkmjbfkaaExQ
import Derived.Test.YtcjjcjpkmjbfkaaSiX
namespace Go.Proofs.Ytcjjcjpkmjbfkaa
open Go.RowKit Go.ChangeShapes Go.WideShapes Go.Deep
set_option linter.unusedVariables false
set_option linter.unusedSimpArgs false

theorem rdbl_two {w : World} {b : Nat} (hb : b = w.heap.size) (t : TypeId) {A2 : Option Addr} {n2 c2 : Nat} {L2 : List Int} (k2 : n2 = L2.length) (d2 : n2 ≤ c2) (h2 : RdB w w.heap.size A2 L2) :
    RdBL (w.alloc (.cells #[.slice none 0 0, .slice A2 n2 c2] t)) (w.alloc (.cells #[.slice none 0 0, .slice A2 n2 c2] t)).heap.size (some ⟨b, 0, none⟩) [[], L2] := by
  have hS := (Since.refl w).alloc (.cells #[.slice none 0 0, .slice A2 n2 c2] t)
  refine ⟨[⟨none, 0, 0⟩, ⟨A2, n2, c2⟩], rfl, rdG_lit hb _ (fun j s hj i hi => ?_), fun j x M e1 e2 => ?_⟩
  · have hj3 : j = 0 ∨ j = 1 := by
      have : j < 2 := by
        rcases Nat.lt_or_ge j 2 with h | h
        · exact h
        · rw [List.getElem?_eq_none (by simpa using h)] at hj; cases hj
      omega
    obtain rfl : i = 0 := by omega
    rcases hj3 with rfl | rfl <;> (simp only [List.getElem?_cons_zero, List.getElem?_cons_succ, Option.some.injEq] at hj; subst hj; rfl)
  · have hj3 : j = 0 ∨ j = 1 := by
      have : j < 2 := by
        rcases Nat.lt_or_ge j 2 with h | h
        · exact h
        · rw [List.getElem?_eq_none (by simpa using h)] at e1; cases e1
      omega
    rcases hj3 with rfl | rfl <;> (simp only [List.getElem?_cons_zero, List.getElem?_cons_succ, Option.some.injEq] at e1 e2; subst e1 e2)
    · exact ⟨rfl, by simp, RdG.nil⟩
    · exact ⟨k2, d2, RdG.on h2 hS⟩
theorem vis12_at {G : List (List Int)} {id : Int} {f : Nat} (h : ¬ (id < 0 ∨ (G.length : Int) ≤ id)) : vis12 G (f + 1) id 0 = fin12 (body12 (vis12 G f) (G.getD id.toNat []) 1) := by
  rw [vis12, if_neg h, if_neg (by omega)]
theorem two12_0 (X : List Int) : vis12 [[], X] 17 0 0 = ⟨[], 1, 0⟩ := by
  rw [vis12_at (by simp)]
  rfl
/-- What is written is a simple glyph. -/
theorem two12_1 {LL : List (List Kt)} {C : List Int} (hC : Bytes C) (he : glE LL C = 0) : vis12 [[], glB LL C] 17 1 0 = ⟨LL.map (List.map liftK), 1, 0⟩ ∧ allIn LL := by
  rw [vis12_at (by simp)]
  have e1 : ([[], glB LL C] : List (List Int)).getD (1 : Int).toNat [] = glB LL C := rfl
  rw [e1]
  by_cases h0 : LL = []
  · subst h0
    rw [gl_nil]
    exact ⟨rfl, fun L hL => by cases hL⟩
  · have hb := gl_bytes LL C hC
    obtain ⟨l1, l2⟩ := gl_len h0 he
    obtain ⟨g1, g2, g3, g4⟩ := (gl_back (fnL (glB LL C)) (glB LL C).length h0 he (atL_self _)).1 (Nat.le_refl _)
    have hfin := lay7_fine (f := fnL (glB LL C)) (n := (glB LL C).length) (bytes_fn hb)
    rw [g2] at hfin
    obtain ⟨p1, p2, p3, p4, p5, p6, p7, p8⟩ := gl_parts h0 he
    have hls : LL.length ≤ 4096 := by
      have h1 := len_sum hfin.2.1
      have h2 := hfin.2.2
      omega
    have h12 : fnL (glB LL C) 0 < 128 := by
      rw [p1]
      have e3 : (lsK LL).length = LL.length := by unfold lsK; rw [List.length_map]
      have e2 : fnL (wrB7 (lsK LL) (boxK LL) C (xsK LL.flatten) (ysK LL.flatten) (osK LL.flatten)) 0 = byteOf (LL.length : Int) 2 0 := by
        unfold wrB7 fnL
        rw [e3]
        rfl
      rw [e2]
      unfold byteOf
      omega
    have hbd : body12 (vis12 [[], glB LL C] 16) (glB LL C) 1 = ⟨LL.map (List.map liftK), 1, 0⟩ := by
      unfold body12
      rw [if_neg (by omega), if_neg (by omega), g1, g2]
    rw [hbd]
    refine ⟨?_, hfin.1⟩
    unfold fin12
    rw [if_neg (by simp), if_neg (by rw [sum_map]; have := hfin.2.2; omega)]
theorem simple_of1 {LL : List (List Kt)} {C : List Int} (hC : Bytes C) (he : glE LL C = 0) (A : Option Addr) (c : Nat) (w : World) (hx : (glB LL C).length ≤ 140737488355328) (h : RdBL w w.heap.size A [[], glB LL C]) : Calls Try.prog 10 #[.slice A 2 c, .int .i64 1] w fun e w' => ∃ A5 c5, e = .returned (.tuple #[.slice A5 LL.length c5, .int .i64 0]) ∧ RdOL w' w'.heap.size A5 (LL.map (List.map liftK)) ∧ Since w w' := by
  refine (ex_of A 2 c [[], glB LL C] 1 w h (fun b hb => ?_) (fun b hb => ?_) rfl (by omega)).mono ?_
  · rcases List.mem_cons.1 hb with rfl | hb
    · intro v hv; cases hv
    · rw [List.mem_singleton] at hb; subst hb; exact gl_bytes LL C hC
  · rcases List.mem_cons.1 hb with rfl | hb
    · simp
    · rw [List.mem_singleton] at hb; subst hb; exact hx
  · rintro e w' ⟨u, rfl, hO, hS⟩
    rw [(two12_1 hC he).1] at hO ⊢
    rw [if_pos rfl] at hO
    obtain ⟨A5, c5, rfl, _, hr⟩ := hO.rd
    exact ⟨A5, c5, by rw [List.length_map], hr, hS⟩
theorem simple_of0 {X : List Int} (hX : Bytes X) (A : Option Addr) (c : Nat) (w : World) (hx : X.length ≤ 140737488355328) (h : RdBL w w.heap.size A [[], X]) : Calls Try.prog 10 #[.slice A 2 c, .int .i64 0] w fun e w' => ∃ A5 c5, e = .returned (.tuple #[.slice A5 0 c5, .int .i64 0]) ∧ Since w w' := by
  refine (ex_of A 2 c [[], X] 0 w h (fun b hb => ?_) (fun b hb => ?_) rfl (by omega)).mono ?_
  · rcases List.mem_cons.1 hb with rfl | hb
    · intro v hv; cases hv
    · rw [List.mem_singleton] at hb; subst hb; exact hX
  · rcases List.mem_cons.1 hb with rfl | hb
    · simp
    · rw [List.mem_singleton] at hb; subst hb; exact hx
  · rintro e w' ⟨u, rfl, hO, hS⟩
    rw [two12_0] at hO ⊢
    rw [if_pos rfl] at hO
    obtain ⟨A5, c5, rfl, _, hr⟩ := hO.rd
    exact ⟨A5, c5, rfl, hS⟩
theorem sameM (A A' : Option Addr) (c c' N : Nat) (LL : List (List Kt)) (w : World) (hN : N = LL.length) (h : RdOL w w.heap.size A (LL.map (List.map liftK))) (h' : RdOL w w.heap.size A' (LL.map (List.map liftK))) (hn : LL.length ≤ maxLen) (hm : ∀ L, L ∈ LL → L.length ≤ maxLen) :
    Calls Try.prog 12 #[.slice A N c, .slice A' N c'] w fun e w' => e = .returned (.bool true) ∧ Since w w' := by
  have h1 := rf_sameL A A' c c' (LL.map (List.map liftK)) w h h' (by rw [List.length_map]; exact hn) (fun L hL => by
    obtain ⟨M, hM, rfl⟩ := List.mem_map.1 hL
    rw [List.length_map]; exact hm M hM)
  rw [List.length_map, ← hN] at h1
  exact h1
set_option maxRecDepth 1000000 in
set_option maxHeartbeats 32000000 in
theorem walk_expandsimple (A : Option Addr) (c : Nat) (LL : List (List Kt)) (B : Option Addr) (m d : Nat) (C : List Int) (w : World) (h : RdOL w w.heap.size A LL) (hn : LL.length ≤ maxLen) (hm : ∀ L, L ∈ LL → L.length ≤ maxLen) (hC : RdB w w.heap.size B C) (hmm : m = C.length) (hmx : m ≤ maxLen) (hCb : Bytes C) :
    Calls Try.prog 5 #[.agg #[.slice A LL.length c, .slice B m d]] w fun e w' => e = .returned (.bool true) ∧ Since w w' := by
  have HG := Lib.hid (fun (w2 : World) (h2 : Since w w2) => rf_great A c LL w2 (h.on h2) hn hm)
  obtain ⟨N, hN⟩ : ∃ N, N = LL.length := ⟨_, rfl⟩
  rw [← hN] at hn HG ⊢
  have hmI : (m : Int) ≤ 9223372036854775807 := by simp only [maxLen] at hmx; omega
  have HN := Lib.hid hN
  have HMM := Lib.hid hmm
  have HO := Lib.hid h
  have HCC := Lib.hid hC
  clear hN hmm h hC hm
  go_enter Try.func5, Try.ntmps5
  go_upto_region 1 with fail
  refine wp_named fun w1 hw1 => ?_
  have hS1 : Since w w1 := by subst hw1; (repeat (first | with_reducible (exact Since.refl _) | with_reducible assumption | with_reducible (refine Since.drew ?_) | with_reducible (refine Since.drewN ?_ _) | with_reducible (refine Since.alloc ?_ _) | (with_reducible (refine Since.setCell ?_ ?_ _); rotate_left; focus (first | (simp; done) | (simp; omega) | omega)) | (with_reducible (refine Since.trans ?_ (by with_reducible assumption)))))
  obtain ⟨gb, hgb0⟩ : ∃ gb, gb = w.heap.size := ⟨_, rfl⟩
  have hT1 : Two w1 gb (.slice A N c) (.slice B m d) := by subst hw1; exact two_new w gb hgb0 _ _ _
  rw [← hgb0]
  clear hw1 hgb0
  go_upto_region 3 with (go_at_call 7; (with_reducible refine (alive12 _).mono ?_); rintro e w2 ⟨rfl, hS2⟩; have hT2 := hT1.since hS2; have hA2 := hS1.trans hS2; obtain ⟨p1, p2, p3, p4, p5⟩ := id hT2; clear hT1)
  by_cases hbig : 1000 < m
  · have d1 : (1000 : Int) < (m : Int) := by omega
    go_wp2_with (go_at_call 16; (with_reducible refine (HG.out _ hA2).mono ?_); rintro e w3 ⟨g, rfl, hg, hS3⟩; have hT3 := hT2.since hS3; have hA3 := hA2.trans hS3; obtain ⟨q1, q2, q3, q4, q5⟩ := id hT3; have HNG := Lib.hid hg; clear hg; cases g)
    all_goals go_ret
    all_goals exact ⟨by first | rfl | simp, hA3⟩
  have d1 : ¬ (1000 : Int) < (m : Int) := by omega
  go_upto_region 5 with (go_at_call 16; (with_reducible refine (HG.out _ hA2).mono ?_); rintro e w3 ⟨g, rfl, hg, hS3⟩; have hT3 := hT2.since hS3; have hA3 := hA2.trans hS3; obtain ⟨q1, q2, q3, q4, q5⟩ := id hT3; have HNG := Lib.hid hg; clear hg; cases g)
  · obtain ⟨n1, n2, n3⟩ := HNG.out (by simp)
    have hN6 : N ≤ 600 := by rw [HN.out]; exact n1
    have HW := Lib.hid (fun (w2 : World) (h2 : Since w w2) => rf_write7 A c LL B m d C w2 (HO.out.on h2) (by omega) (fun L hL => by have := n2 L hL; omega) (HCC.out.on h2) HMM.out (by rw [← HMM.out]; omega))
    rw [← HN.out] at HW
    unfold WrPost7 at HW
    by_cases he : glE LL C = 0
    · have hXB : (glB LL C).length ≤ 200000 := by
        by_cases h0 : LL = []
        · rw [h0, gl_nil]; simp
        · have := (gl_len h0 he).1; have h9 : sumL LL ≤ 9000 := n3; rw [← HMM.out] at this; omega
      have HLF := Lib.hid (fun (w2 : World) (h2 : Since w w2) => rf_liftO A c LL w2 (HO.out.on h2) (by omega) (fun L hL => by have := n2 L hL; omega) (two12_1 hCb he).2)
      unfold RfLiftO at HLF
      rw [← HN.out] at HLF
      have HO1 := Lib.hid (fun (A9 : Option Addr) (c9 : Nat) (w2 : World) (h2 : RdBL w2 w2.heap.size A9 [[], glB LL C]) => simple_of1 hCb he A9 c9 w2 (by omega) h2)
      rw [← HN.out] at HO1
      have HO0 := Lib.hid (fun (A9 : Option Addr) (c9 : Nat) (w2 : World) (h2 : RdBL w2 w2.heap.size A9 [[], glB LL C]) => simple_of0 (gl_bytes LL C hCb) A9 c9 w2 (by omega) h2)
      have HSM := Lib.hid (fun (A1 A2 : Option Addr) (c1 c2 : Nat) (w2 : World) (h1 : RdOL w2 w2.heap.size A1 (LL.map (List.map liftK))) (h2 : RdOL w2 w2.heap.size A2 (LL.map (List.map liftK))) => sameM A1 A2 c1 c2 N LL w2 HN.out h1 h2 (by simp only [maxLen]; omega) (fun L hL => by have := n2 L hL; simp only [maxLen]; omega))
      rw [he] at HW
      obtain ⟨X, hX⟩ : ∃ X, X = glB LL C := ⟨_, rfl⟩
      rw [← hX] at HW HO1 HO0 hXB
      obtain ⟨xl, hxl⟩ : ∃ xl, xl = X.length := ⟨_, rfl⟩
      rw [← hxl] at hXB
      have HXL := Lib.hid hxl
      have tok1 : True := trivial
      have tok2 : True := trivial
      clear hX n1 n2 n3 HNG he hxl
      go_upto_region 11 with (first | (go_at_call 17; (with_reducible refine (HW.out _ hA3).mono ?_); rintro e w4 ⟨v, rfl, hO4, hS4⟩; have hT4 := hT3.since hS4; obtain ⟨r1, r2, r3, r4, r5⟩ := id hT4; obtain ⟨A4, c4, rfl, hc4, hR4⟩ := hO4.rd (by omega) byL_len; rw [← HXL.out] at hc4 ⊢; have hA4 := hA3.trans hS4; have hL4 := rdbl_two (b := w4.heap.size) rfl 25 HXL.out hc4 hR4; clear hO4) | (go_at_call 10; have _t := tok1; (with_reducible refine (HO1.out _ _ _ hL4).mono ?_); rintro e w5 ⟨A5, c5, rfl, hr5, hS5⟩; have hX5 := ((Since.refl w4).alloc _).trans hS5; have hT5 := hT4.since hX5; obtain ⟨s1, s2, s3, s4, s5⟩ := id hT5; have hA5 := hA4.trans hX5; have hR5 := RdG.on hR4 hX5; clear tok1) | (go_at_call 18; (with_reducible refine (HLF.out _ hA5).mono ?_); rintro e w6 ⟨v6, rfl, hO6, hS6⟩; obtain ⟨A6, c6, rfl, _, hr6⟩ := hO6.rd; rw [List.length_map, ← HN.out] at *; have hA6 := hA5.trans hS6; have hR6 := RdG.on hR5 hS6; have hr56 := hr5.on hS6; have hL6 := rdbl_two (b := w6.heap.size) rfl 25 HXL.out hc4 hR6; clear hO6) | (go_at_call 10; have _t := tok2; (with_reducible refine (HO0.out _ _ _ hL6).mono ?_); rintro e w7 ⟨A7, c7, rfl, hS7⟩; have hX7 := ((Since.refl w6).alloc _).trans hS7; have hA7 := hA6.trans hX7; have hr57 := hr56.on hX7; have hr67 := hr6.on hX7; clear tok2))
      go_wp2_with (go_at_call 12; (with_reducible refine (HSM.out _ _ _ _ _ hr57 hr67).mono ?_); rintro e w8 ⟨rfl, hS8⟩)
      go_ret
      exact ⟨by first | rfl | simp, hA7.trans hS8⟩
    · rw [gl_err he] at HW
      have d0 : (glE LL C == 0) = false := by simpa using he
      generalize glE LL C = y at *
      clear n1 n2 n3 HNG
      go_wp2_with (go_at_call 17; (with_reducible refine (HW.out _ hA3).mono ?_); rintro e w4 ⟨v, rfl, hO4, hS4⟩; obtain ⟨A4, c4, rfl, hc4, hR4⟩ := hO4.rd (by omega) byL_len)
      go_ret
      exact ⟨by first | rfl | simp, hA3.trans hS4⟩
  · go_ret
    exact ⟨by first | rfl | simp, hA3⟩
end Go.Proofs.Ytcjjcjpkmjbfkaa
