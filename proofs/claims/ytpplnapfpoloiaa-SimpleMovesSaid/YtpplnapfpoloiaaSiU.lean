/-
  Layer 7: Write, walked.
-/
import Derived.Test.YtpplnapfpoloiaaSiT
namespace Go.Proofs.Ytpplnapfpoloiaa
open Go.RowKit Go.ChangeShapes Go.WideShapes Go.Deep
set_option linter.unusedVariables false
set_option linter.unusedSimpArgs false

@[go_sem] theorem ix7_0 (a b c d : Value) (w : World) : (Instr.index 117 (.agg #[a, b, c, d]) (.int .i64 0)).run Try.prog w = .ok a w := by kernel_rfl
@[go_sem] theorem ix7_1 (a b c d : Value) (w : World) : (Instr.index 117 (.agg #[a, b, c, d]) (.int .i64 1)).run Try.prog w = .ok b w := by kernel_rfl
@[go_sem] theorem ix7_2 (a b c d : Value) (w : World) : (Instr.index 117 (.agg #[a, b, c, d]) (.int .i64 2)).run Try.prog w = .ok c w := by kernel_rfl
@[go_sem] theorem ix7_3 (a b c d : Value) (w : World) : (Instr.index 117 (.agg #[a, b, c, d]) (.int .i64 3)).run Try.prog w = .ok d w := by kernel_rfl
theorem nums8_snoc (l : List Int) (x : Int) : nums8 (l ++ [x]) = nums8 l ++ putL x 2 := by unfold nums8; simp
def lsK (LL : List (List Kt)) : List Nat := LL.map List.length
/-- The bytes of a glyph, and why it can't be written. -/
def glE (LL : List (List Kt)) (C : List Int) : Int := wrE7 (lsK LL) C (xsK LL.flatten) (ysK LL.flatten)
def boxK (LL : List (List Kt)) : List Int := box7 (xsK LL.flatten) (ysK LL.flatten)
def glB (LL : List (List Kt)) (C : List Int) : List Int := if glE LL C = 0 then wr7 (lsK LL) (boxK LL) C (xsK LL.flatten) (ysK LL.flatten) (osK LL.flatten) else []
theorem glE_chk {LL : List (List Kt)} (C : List Int) (h : LL ≠ []) : glE LL C = chkE LL C.length := by
  unfold glE wrE7 chkE lsK sumL
  rw [if_neg (fun e => h (List.map_eq_nil_iff.1 e))]
  rfl
def WrPost7 (LL : List (List Kt)) (C : List Int) (w : World) (e : Ending) (w' : World) : Prop := ∃ v, e = .returned (.tuple #[v, .int .i64 (glE LL C)]) ∧ OwnB w' w.heap.size v (glB LL C) ∧ Since w w'
theorem wrpost7_no {LL : List (List Kt)} {C : List Int} {w w' : World} {x : Int} (h : glE LL C = x) (hB : glB LL C = []) (hS : Since w w') : WrPost7 LL C w (.returned (.tuple #[.slice none 0 0, .int .i64 x])) w' :=
  ⟨_, by rw [h], by rw [hB]; exact OwnG.nil _ _ _ _ _, hS⟩
theorem sumL_flat (LL : List (List Kt)) : sumL LL = LL.flatten.length := by
  unfold sumL; rw [List.length_flatten]
theorem ends7_take {LL : List (List Kt)} {j : Nat} {L : List Kt} (hj : LL[j]? = some L) : ends7 (-1) (lsK (LL.take (j + 1))) = ends7 (-1) (lsK (LL.take j)) ++ [((sumL (LL.take (j + 1)) : Nat) : Int) - 1] := by
  have hjl : j < LL.length := by
    rcases Nat.lt_or_ge j LL.length with h | h
    · exact h
    · rw [List.getElem?_eq_none h] at hj; cases hj
  have e : LL[j] = L := by rw [List.getElem?_eq_getElem hjl] at hj; injection hj
  have key : ∀ (ls : List Nat) (v : Int) (l : Nat), ends7 v (ls ++ [l]) = ends7 v ls ++ [v + ((ls ++ [l]).sum : Nat)] := by
    intro ls
    induction ls with
    | nil => intro v l; simp [ends7]
    | cons a ls ih =>
      intro v l
      rw [List.cons_append]
      unfold ends7
      rw [ih, List.cons_append, List.sum_cons]
      congr 3
      omega
  have h1 : lsK (LL.take (j + 1)) = lsK (LL.take j) ++ [L.length] := by unfold lsK; rw [List.take_succ_eq_append_getElem hjl, e]; simp
  rw [h1, key]
  have h2 : sumL (LL.take (j + 1)) = (lsK (LL.take j) ++ [L.length]).sum := by rw [← h1]; rfl
  rw [h2]
  congr 2
set_option maxRecDepth 1000000 in
set_option maxHeartbeats 32000000 in
theorem si_write (A : Option Addr) (c : Nat) (LL : List (List Kt)) (B : Option Addr) (m d : Nat) (C : List Int) (w : World) (h : RdOL w w.heap.size A LL) (hn : LL.length ≤ 1000000) (hm : ∀ L, L ∈ LL → L.length ≤ 1000000) (hC : RdB w w.heap.size B C) (hmm : m = C.length) (hcm : C.length ≤ 140737488355328) :
    Calls Try.prog 38 #[.agg #[.slice A LL.length c, .slice B m d]] w (WrPost7 LL C w) := by
  obtain ⟨N, hN⟩ : ∃ N, N = LL.length := ⟨_, rfl⟩
  have hNI : (N : Int) ≤ 1000000 := by omega
  have hmI : (m : Int) ≤ 140737488355328 := by omega
  by_cases h0 : LL = []
  · subst h0
    rw [List.length_nil] at hN ⊢
    have hB : glB [] C = [] := by unfold glB; split <;> rfl
    by_cases hc : C = []
    · subst hc
      rw [List.length_nil] at hmm
      subst hmm
      have E := Lib.hid (show glE [] [] = 0 by unfold glE wrE7 lsK; rfl)
      clear h hC hm hN
      go_enter Try.func38, Try.ntmps38
      go_wp2_with fail
      go_ret2
      exact wrpost7_no E.out hB (by (repeat (first | with_reducible (exact Since.refl _) | with_reducible assumption | with_reducible (refine Since.drew ?_) | with_reducible (refine Since.drewN ?_ _) | with_reducible (refine Since.alloc ?_ _) | (with_reducible (refine Since.setCell ?_ ?_ _); rotate_left; focus (first | (simp; done) | (simp; omega) | omega)) | (with_reducible (refine Since.trans ?_ (by with_reducible assumption))))))
    · have E := Lib.hid (show glE [] C = 4 by unfold glE wrE7 lsK; rw [if_pos (by rfl), if_neg hc])
      have hm0 : 0 < m := by rw [hmm]; exact List.length_pos_iff.2 hc
      have hmI0 : (0 : Int) < (m : Int) := by omega
      clear h hC hm hN hmm
      go_enter Try.func38, Try.ntmps38
      go_wp2_with fail
      go_ret2
      exact wrpost7_no E.out hB (by (repeat (first | with_reducible (exact Since.refl _) | with_reducible assumption | with_reducible (refine Since.drew ?_) | with_reducible (refine Since.drewN ?_ _) | with_reducible (refine Since.alloc ?_ _) | (with_reducible (refine Since.setCell ?_ ?_ _); rotate_left; focus (first | (simp; done) | (simp; omega) | omega)) | (with_reducible (refine Since.trans ?_ (by with_reducible assumption))))))
  · have hN0 : 0 < N := by rw [hN]; exact List.length_pos_iff.2 h0
    have hNz : ¬ (N : Int) = 0 := by omega
    have hG := glE_chk C h0
    have HCK := Lib.hid (fun (w2 : World) (h2 : Since w w2) => si_check A c LL B m d w2 (h.on h2) hn hm (by omega))
    rw [← hN] at HCK hn ⊢
    unfold ChkPost at HCK
    by_cases he : chkE LL m = 0
    · have hch := he
      unfold chkE at hch
      have c0 : 0 ∉ LL.map List.length := fun e => by rw [if_pos e] at hch; cases hch
      rw [if_neg c0] at hch
      have c1 : ¬ (4096 < sumL LL ∨ 65535 < m) := fun e => by rw [if_pos e] at hch; cases hch
      rw [if_neg c1] at hch
      have c2 : OkK LL.flatten := by
        by_cases e : StepsOk 0 (LL.flatten.map Kt.x) ∧ StepsOk 0 (LL.flatten.map Kt.y)
        · exact e
        · rw [if_neg e] at hch; cases hch
      have hls := len_le_sum (LL.map List.length) (fun l hl => by
        rcases Nat.eq_zero_or_pos l with rfl | hp
        · exact absurd hl c0
        · exact hp)
      rw [List.length_map] at hls
      have hsL : sumL LL = (LL.map List.length).sum := rfl
      have hN4 : N ≤ 4096 := by omega
      have hm4 : m ≤ 65535 := by omega
      have hfl : LL.flatten.length ≤ 4096 := by rw [← sumL_flat]; omega
      have E := Lib.hid (show glE LL C = 0 by rw [hG, ← hmm, he])
      have hBx := si_box A c LL
      have hWk := Lib.hid (fun (w2 : World) (h2 : Since w w2) => si_wknots A c LL w2 (h.on h2) (by omega) hfl c2)
      have hBX := Lib.hid (fun (w2 : World) (h2 : Since w w2) => si_box A c LL w2 (h.on h2) (by omega) hm)
      rw [← hN] at hWk hBX
      unfold BoxPost7 at hBX
      have hgb := Lib.hid (show glB LL C = (((putL N 2 ++ nums8 (boxK LL)) ++ nums8 (ends7 (-1) (lsK LL)) ++ putL m 2) ++ C) ++ kn7 (xsK LL.flatten) (ysK LL.flatten) (osK LL.flatten) by
        unfold glB; rw [if_pos E.out]; unfold wr7; rw [if_neg (show ¬ lsK LL = [] from fun e => h0 (List.map_eq_nil_iff.1 e))]; unfold wrB7
        rw [show (lsK LL).length = N by unfold lsK; rw [List.length_map, ← hN], ← hmm]
        simp only [List.append_assoc])
      have hbl : boxK LL = [mn7 (xsK LL.flatten), mn7 (ysK LL.flatten), mx7 (xsK LL.flatten), mx7 (ysK LL.flatten)] := rfl
      have hx1 : ∀ v ∈ boxK LL, -32768 ≤ v ∧ v ≤ 32767 := by
        have hxs := stepsOk_sh _ _ c2.1
        have hys := stepsOk_sh _ _ c2.2
        have hmn : ∀ l : List Int, (∀ x ∈ l, Sh x) → Sh (mn7 l) ∧ Sh (mx7 l) := fun l hl => by
          cases l with
          | nil => exact ⟨by decide, by decide⟩
          | cons a r => exact ⟨foldl_min_sh (a :: r) a (hl a (by simp)) hl, foldl_max_sh (a :: r) a (hl a (by simp)) hl⟩
        intro v hv
        rw [hbl] at hv
        simp only [List.mem_cons, List.not_mem_nil, or_false] at hv
        rcases hv with rfl | rfl | rfl | rfl
        · exact (hmn _ hxs).1
        · exact (hmn _ hys).1
        · exact (hmn _ hxs).2
        · exact (hmn _ hys).2
      have hkl := (kn7_len (xsK LL.flatten) (ysK LL.flatten) (osK LL.flatten) (by unfold xsK ysK; rw [List.length_map, List.length_map]) (by unfold xsK osK; rw [List.length_map, List.length_map])).1
      rw [show (xsK LL.flatten).length = LL.flatten.length by unfold xsK; rw [List.length_map]] at hkl
      have hfin : ∀ X : List Int, X.length ≤ 1000000 → X.length + (kn7 (xsK LL.flatten) (ysK LL.flatten) (osK LL.flatten)).length ≤ 140737488355328 := fun X hX => by omega
      have HFIN := Lib.hid hfin
      have HX1 := Lib.hid hx1
      have HO := Lib.hid h
      have HCC := Lib.hid hC
      have HMM := Lib.hid hmm
      have HN2 := Lib.hid hN
      clear hfin hx1 hch c0 c1 c2 hls hsL hBx hG hkl hC hm h hmm hN
      rw [he] at HCK
      clear he
      generalize kn7 (xsK LL.flatten) (ysK LL.flatten) (osK LL.flatten) = KN at *
      generalize boxK LL = BX at *
      unfold xsK ysK at hbl
      generalize mn7 (List.map Kt.x LL.flatten) = bx1 at *
      generalize mn7 (List.map Kt.y LL.flatten) = bx2 at *
      generalize mx7 (List.map Kt.x LL.flatten) = bx3 at *
      generalize mx7 (List.map Kt.y LL.flatten) = bx4 at *
      subst hbl
      go_enter Try.func38, Try.ntmps38
      go_upto_region 5 with fail
      refine wp_named fun w1 hw1 => ?_
      have hS1 : Since w w1 := by subst hw1; (repeat (first | with_reducible (exact Since.refl _) | with_reducible assumption | with_reducible (refine Since.drew ?_) | with_reducible (refine Since.drewN ?_ _) | with_reducible (refine Since.alloc ?_ _) | (with_reducible (refine Since.setCell ?_ ?_ _); rotate_left; focus (first | (simp; done) | (simp; omega) | omega)) | (with_reducible (refine Since.trans ?_ (by with_reducible assumption)))))
      obtain ⟨gb, hgb0⟩ : ∃ gb, gb = w.heap.size := ⟨_, rfl⟩
      have hT1 : Two w1 gb (.slice A N c) (.slice B m d) := by subst hw1; exact two_new w gb hgb0 _ _ _
      rw [← hgb0]
      clear hw1 hgb0
      obtain ⟨g0, g1, g2, g3, g4⟩ := id hT1
      have tok1 : True := trivial
      go_upto_region 10 with (first | (go_at_call 81; (with_reducible refine (HCK.out _ hS1).mono ?_); rintro e w2 ⟨rfl, hS2⟩; have hT2 := hT1.since hS2; have hA2 := hS1.trans hS2; obtain ⟨p1, p2, p3, p4, p5⟩ := id hT2) | (go_at_call 48; have _t := tok1; (with_reducible refine (put_o 2 (N : Int) 2 _ (by unfold In64; omega) rfl (by omega)).mono ?_); rintro e w3 ⟨g, rfl, hg, hO3, hS3⟩; have hT3 := hT2.since hS3; have hA3 := hA2.trans hS3; obtain ⟨q1, q2, q3, q4, q5⟩ := id hT3; have hB3 := hS2.trans hS3; clear tok1) | (go_at_call 40; (with_reducible refine (hBX.out _ hA3).mono ?_); rintro e w4 ⟨rfl, hS4⟩; have hT4 := hT3.since hS4; have hA4 := hA3.trans hS4; have hB4 := hB3.trans hS4; have hO4 := (hO3.since hS4).low hS2.below.size))
      go_wp2_with fail
      refine wp_named fun w5 hw5 => ?_
      have hB5 : Since w1 w5 := by subst hw5; (repeat (first | with_reducible (exact Since.refl _) | with_reducible assumption | with_reducible (refine Since.drew ?_) | with_reducible (refine Since.drewN ?_ _) | with_reducible (refine Since.alloc ?_ _) | (with_reducible (refine Since.setCell ?_ ?_ _); rotate_left; focus (first | (simp; done) | (simp; omega) | omega)) | (with_reducible (refine Since.trans ?_ (by with_reducible assumption)))))
      have hO5 : OwnB w5 w1.heap.size (.slice (some ⟨g, 0, none⟩) 2 2) (putL N 2) := by subst hw5; exact (hO4.alloc _).alloc _
      clear hw5 hO4 hO3 hT2 hT3 hT4 hA2 hA3 hA4 hB3 hB4 p1 p2 p3 p4 p5 q1 q2 q3 q4 q5
      have hxb1 := HX1.out bx1 (by simp)
      have hxb2 := HX1.out bx2 (by simp)
      have hxb3 := HX1.out bx3 (by simp)
      have hxb4 := HX1.out bx4 (by simp)
      go_loopw [5, 45] (fun v y wr => ∃ (i : Nat) (z : Int), i ≤ 4 ∧ z = (i : Int) ∧ y = .int .i64 z ∧ OwnB wr w1.heap.size v (putL N 2 ++ nums8 (([bx1, bx2, bx3, bx4] : List Int).take i)) ∧ Since w1 wr) (fun _ y _ => 4 - (intOf y).toNat)
      case atStart => exact ⟨0, 0, by omega, rfl, rfl, by simpa [nums8] using hO5, hB5⟩
      case round =>
        obtain ⟨i, z, hi, hz, rfl, hO, hS⟩ := hrel
        clear hO5 hB5
        have hi5 : i = 0 ∨ i = 1 ∨ i = 2 ∨ i = 3 ∨ i = 4 := by omega
        rcases hi5 with rfl | rfl | rfl | rfl | rfl

        · obtain rfl : z = 0 := by omega
          have hta : (([bx1, bx2, bx3, bx4] : List Int).take 1) = ([bx1, bx2, bx3, bx4] : List Int).take 0 ++ [bx1] := rfl
          have HTA := Lib.hid (show putL N 2 ++ nums8 (([bx1, bx2, bx3, bx4] : List Int).take 1) = putL N 2 ++ nums8 (([bx1, bx2, bx3, bx4] : List Int).take 0) ++ putL bx1 2 by rw [hta, nums8_snoc, List.append_assoc])
          have hlen : (putL N 2 ++ nums8 (([bx1, bx2, bx3, bx4] : List Int).take 0)).length + (putL bx1 2).length ≤ 140737488355328 := by rw [List.length_append, nums8_len, putL_len, putL_len, List.length_take]; omega
          clear hta hz
          generalize putL N 2 ++ nums8 (([bx1, bx2, bx3, bx4] : List Int).take 0) = P at *
          go_wp2_with (first | (go_at_call 48; (with_reducible refine (put_o 2 bx1 2 _ (by unfold In64; omega) rfl (by omega)).mono ?_); rintro e w6 ⟨g6, rfl, hg6, hO6, hS6⟩; have hT6 := hS.trans hS6; have hP6 := OwnG.since hO hS6; have hr6 := own_rdv (by omega) byL_len hO6; have hl6 := putL_len bx1 2) | (at_builtin; refine wpList_append_bw rfl _ _ rfl hT6 u5 P rfl hP6 _ (some ⟨g6, 0, none⟩) 2 2 (putL bx1 2) hl6.symm rfl hr6 hlen ?_; intro v7 w7 hO7 hS7 hg7 hw7))
          go_roundw
          case rel => exact ⟨1, 1, by omega, rfl, by first | rfl | go_num | simp, by rw [HTA.out]; exact hO7, hS7⟩
          case measure => simp [intOf]

        · obtain rfl : z = 1 := by omega
          have hta : (([bx1, bx2, bx3, bx4] : List Int).take 2) = ([bx1, bx2, bx3, bx4] : List Int).take 1 ++ [bx2] := rfl
          have HTA := Lib.hid (show putL N 2 ++ nums8 (([bx1, bx2, bx3, bx4] : List Int).take 2) = putL N 2 ++ nums8 (([bx1, bx2, bx3, bx4] : List Int).take 1) ++ putL bx2 2 by rw [hta, nums8_snoc, List.append_assoc])
          have hlen : (putL N 2 ++ nums8 (([bx1, bx2, bx3, bx4] : List Int).take 1)).length + (putL bx2 2).length ≤ 140737488355328 := by rw [List.length_append, nums8_len, putL_len, putL_len, List.length_take]; omega
          clear hta hz
          generalize putL N 2 ++ nums8 (([bx1, bx2, bx3, bx4] : List Int).take 1) = P at *
          go_wp2_with (first | (go_at_call 48; (with_reducible refine (put_o 2 bx2 2 _ (by unfold In64; omega) rfl (by omega)).mono ?_); rintro e w6 ⟨g6, rfl, hg6, hO6, hS6⟩; have hT6 := hS.trans hS6; have hP6 := OwnG.since hO hS6; have hr6 := own_rdv (by omega) byL_len hO6; have hl6 := putL_len bx2 2) | (at_builtin; refine wpList_append_bw rfl _ _ rfl hT6 u5 P rfl hP6 _ (some ⟨g6, 0, none⟩) 2 2 (putL bx2 2) hl6.symm rfl hr6 hlen ?_; intro v7 w7 hO7 hS7 hg7 hw7))
          go_roundw
          case rel => exact ⟨2, 2, by omega, rfl, by first | rfl | go_num | simp, by rw [HTA.out]; exact hO7, hS7⟩
          case measure => simp [intOf]

        · obtain rfl : z = 2 := by omega
          have hta : (([bx1, bx2, bx3, bx4] : List Int).take 3) = ([bx1, bx2, bx3, bx4] : List Int).take 2 ++ [bx3] := rfl
          have HTA := Lib.hid (show putL N 2 ++ nums8 (([bx1, bx2, bx3, bx4] : List Int).take 3) = putL N 2 ++ nums8 (([bx1, bx2, bx3, bx4] : List Int).take 2) ++ putL bx3 2 by rw [hta, nums8_snoc, List.append_assoc])
          have hlen : (putL N 2 ++ nums8 (([bx1, bx2, bx3, bx4] : List Int).take 2)).length + (putL bx3 2).length ≤ 140737488355328 := by rw [List.length_append, nums8_len, putL_len, putL_len, List.length_take]; omega
          clear hta hz
          generalize putL N 2 ++ nums8 (([bx1, bx2, bx3, bx4] : List Int).take 2) = P at *
          go_wp2_with (first | (go_at_call 48; (with_reducible refine (put_o 2 bx3 2 _ (by unfold In64; omega) rfl (by omega)).mono ?_); rintro e w6 ⟨g6, rfl, hg6, hO6, hS6⟩; have hT6 := hS.trans hS6; have hP6 := OwnG.since hO hS6; have hr6 := own_rdv (by omega) byL_len hO6; have hl6 := putL_len bx3 2) | (at_builtin; refine wpList_append_bw rfl _ _ rfl hT6 u5 P rfl hP6 _ (some ⟨g6, 0, none⟩) 2 2 (putL bx3 2) hl6.symm rfl hr6 hlen ?_; intro v7 w7 hO7 hS7 hg7 hw7))
          go_roundw
          case rel => exact ⟨3, 3, by omega, rfl, by first | rfl | go_num | simp, by rw [HTA.out]; exact hO7, hS7⟩
          case measure => simp [intOf]

        · obtain rfl : z = 3 := by omega
          have hta : (([bx1, bx2, bx3, bx4] : List Int).take 4) = ([bx1, bx2, bx3, bx4] : List Int).take 3 ++ [bx4] := rfl
          have HTA := Lib.hid (show putL N 2 ++ nums8 (([bx1, bx2, bx3, bx4] : List Int).take 4) = putL N 2 ++ nums8 (([bx1, bx2, bx3, bx4] : List Int).take 3) ++ putL bx4 2 by rw [hta, nums8_snoc, List.append_assoc])
          have hlen : (putL N 2 ++ nums8 (([bx1, bx2, bx3, bx4] : List Int).take 3)).length + (putL bx4 2).length ≤ 140737488355328 := by rw [List.length_append, nums8_len, putL_len, putL_len, List.length_take]; omega
          clear hta hz
          generalize putL N 2 ++ nums8 (([bx1, bx2, bx3, bx4] : List Int).take 3) = P at *
          go_wp2_with (first | (go_at_call 48; (with_reducible refine (put_o 2 bx4 2 _ (by unfold In64; omega) rfl (by omega)).mono ?_); rintro e w6 ⟨g6, rfl, hg6, hO6, hS6⟩; have hT6 := hS.trans hS6; have hP6 := OwnG.since hO hS6; have hr6 := own_rdv (by omega) byL_len hO6; have hl6 := putL_len bx4 2) | (at_builtin; refine wpList_append_bw rfl _ _ rfl hT6 u5 P rfl hP6 _ (some ⟨g6, 0, none⟩) 2 2 (putL bx4 2) hl6.symm rfl hr6 hlen ?_; intro v7 w7 hO7 hS7 hg7 hw7))
          go_roundw
          case rel => exact ⟨4, 4, by omega, rfl, by first | rfl | go_num | simp, by rw [HTA.out]; exact hO7, hS7⟩
          case measure => simp [intOf]

        · obtain rfl : z = 4 := by omega
          have hTk : ([bx1, bx2, bx3, bx4] : List Int).take 4 = [bx1, bx2, bx3, bx4] := rfl
          rw [hTk] at hO
          have HPL := Lib.hid (show (putL N 2 ++ nums8 [bx1, bx2, bx3, bx4]).length = 10 by rw [List.length_append, nums8_len, putL_len]; rfl)
          clear hTk hz hi hxb1 hxb2 hxb3 hxb4
          generalize putL N 2 ++ nums8 [bx1, bx2, bx3, bx4] = P at *
          have hT := hT1.since hS
          obtain ⟨p1, p2, p3, p4, p5⟩ := id hT
          have HOw := Lib.hid hO
          have HSw := Lib.hid hS
          go_wp2_with fail
          go_loopw [5, 10, 56] (fun v z y wq => ∃ (j : Nat), j ≤ N ∧ y = .int .i64 (j : Int) ∧ z = .int .i64 (((sumL (LL.take j) : Nat) : Int) - 1) ∧ OwnB wq w1.heap.size v (P ++ nums8 (ends7 (-1) (lsK (LL.take j)))) ∧ Since w1 wq) (fun _ _ y _ => N - (intOf y).toNat)
          case atStart => exact ⟨0, by omega, rfl, by first | rfl | simp [sumL], by simpa [nums8, lsK, ends7] using HOw.out, HSw.out⟩
          case round =>
            obtain ⟨j, hj, rfl, rfl, hOq, hSq⟩ := hrel
            clear hO hS hT p1 p2 p3 p4 p5
            by_cases hjn : j < N
            · have hjn' : (j : Int) < N := by omega
              have hjL : j < LL.length := by rw [← HN2.out]; exact hjn
              have hL : LL[j]? = some LL[j] := List.getElem?_eq_getElem hjL
              generalize LL[j] = L at *
              obtain ⟨b, o, A', c', rfl, hb, hcell, hK⟩ := HO.out.row hL
              have hSw := hS1.trans hSq
              have c1 := (hSw.1 _ _ hb).trans hcell
              have hbw := hSw.2.2.1 _ hb
              have hst := sum_take hL
              have het := ends7_take hL
              have hle : sumL (LL.take (j + 1)) ≤ 4096 := by
                obtain ⟨R, hR⟩ := flat_pre (k := L.length) hL
                have h2 := hfl
                rw [hR, List.take_length] at h2
                rw [hst, sumL_flat]
                simp only [List.length_append] at h2
                omega
              have hlen := ends7_len (lsK (LL.take j)) (-1)
              have hll : (lsK (LL.take j)).length = j := by unfold lsK; rw [List.length_map, List.length_take]; omega
              have HET := Lib.hid (show P ++ nums8 (ends7 (-1) (lsK (LL.take (j + 1)))) = P ++ nums8 (ends7 (-1) (lsK (LL.take j))) ++ putL (((sumL (LL.take (j + 1)) : Nat) : Int) - 1) 2 by rw [het, nums8_snoc, List.append_assoc])
              have hsz : (P ++ nums8 (ends7 (-1) (lsK (LL.take j)))).length + (putL (((sumL (LL.take (j + 1)) : Nat) : Int) - 1) 2).length ≤ 140737488355328 := by
                rw [List.length_append, nums8_len, hlen, hll, putL_len, HPL.out]; omega
              obtain ⟨n, hnl⟩ : ∃ n, n = L.length := ⟨_, rfl⟩
              rw [← hnl] at c1 hst
              have HST := Lib.hid hst
              clear hL hcell hK hjL hlen hll het hnl
              generalize hs9 : sumL (LL.take (j + 1)) = S' at *
              generalize sumL (LL.take j) = S at *
              have u1 : IntKind.i64.wrap ((S : Int) - 1 + (n : Int)) = (S' : Int) - 1 := by rw [IntKind.wrap_i64]; omega
              have hin : In64 ((S' : Int) - 1) := by unfold In64; omega
              clear hst
              have HS9 := Lib.hid hs9
              clear hs9
              generalize P ++ nums8 (ends7 (-1) (lsK (LL.take j))) = PP at *
              go_wp2_with (first | (go_at_call 48; (with_reducible refine (put_o 2 ((S' : Int) - 1) 2 _ hin rfl (by omega)).mono ?_); rintro e w6 ⟨g6, rfl, hg6, hO6, hS6⟩; have hT6 := hSq.trans hS6; have hP6 := OwnG.since hOq hS6; have hr6 := own_rdv (by omega) byL_len hO6; have hl6 := putL_len ((S' : Int) - 1) 2) | (at_builtin; refine wpList_append_bw rfl _ _ rfl hT6 u5 PP rfl hP6 _ (some ⟨g6, 0, none⟩) 2 2 (putL ((S' : Int) - 1) 2) hl6.symm rfl hr6 hsz ?_; intro v7 w7 hO7 hS7 hg7 hw7))
              go_roundw
              case rel => exact ⟨j + 1, by omega, by first | rfl | go_num, by rw [HS9.out], by rw [HET.out]; exact hO7, hS7⟩
              case measure => simp [intOf]; omega
            · obtain rfl : j = N := by omega
              have e : LL.take j = LL := by rw [HN2.out]; exact List.take_length
              rw [e] at hOq
              have hTq := hT1.since hSq
              obtain ⟨p1, p2, p3, p4, p5⟩ := id hTq
              have HGB := Lib.hid (show glB LL C = (((P ++ nums8 (ends7 (-1) (lsK LL))) ++ putL m 2) ++ C) ++ KN from hgb.out)
              have hq1 : (P ++ nums8 (ends7 (-1) (lsK LL))).length = 10 + 2 * j := by
                rw [List.length_append, nums8_len, ends7_len, HPL.out]; unfold lsK; rw [List.length_map, ← HN2.out]
              generalize P ++ nums8 (ends7 (-1) (lsK LL)) = PP at *
              have hz1 : PP.length + (putL (m : Int) 2).length ≤ 140737488355328 := by rw [putL_len]; omega
              have hz2 : (PP ++ putL (m : Int) 2).length + C.length ≤ 140737488355328 := by rw [List.length_append, putL_len, ← HMM.out]; omega
              have hz3 : (PP ++ putL (m : Int) 2 ++ C).length + KN.length ≤ 140737488355328 := HFIN.out _ (by rw [List.length_append, List.length_append, putL_len, ← HMM.out]; omega)
              have hC1 := HCC.out.on (hS1.trans hSq)
              have hSw := hS1.trans hSq
              have tok1 : True := trivial
              have tok2 : True := trivial
              have tok3 : True := trivial
              clear e hq1
              go_wp2_with (first | (go_at_call 48; (with_reducible refine (put_o 2 (m : Int) 2 _ (by unfold In64; omega) rfl (by omega)).mono ?_); rintro e w6 ⟨g6, rfl, hg6, hO6, hS6⟩; have hT6 := hSq.trans hS6; have hP6 := OwnG.since hOq hS6; have hr6 := own_rdv (by omega) byL_len hO6; have hl6 := putL_len (m : Int) 2; have hC6 := hC1.on hS6) | (at_builtin; have _t := tok1; refine wpList_append_bw rfl _ _ rfl hT6 u5 PP rfl hP6 _ (some ⟨g6, 0, none⟩) 2 2 (putL (m : Int) 2) hl6.symm rfl hr6 hz1 ?_; intro v7 w7 hO7 hS7 hg7 hw7; have hT7 := hT1.since hS7; obtain ⟨q1, q2, q3, q4, q5⟩ := id hT7; have hC7 := HCC.out.on (hS1.trans hS7); clear tok1) | (at_builtin; have _t := tok2; refine wpList_append_bw rfl _ _ rfl hS7 v7 (PP ++ putL (m : Int) 2) rfl hO7 _ B m d C HMM.out rfl hC7 hz2 ?_; intro v8 w8 hO8 hS8 hg8 hw8; have hT8 := hT1.since hS8; obtain ⟨r1, r2, r3, r4, r5⟩ := id hT8; clear tok2) | (go_at_call 82; (with_reducible refine (hWk.out _ (hS1.trans hS8)).mono ?_); rintro e w9 ⟨v9, rfl, hO9, hS9⟩; have hT9 := hS8.trans hS9; have hP9 := OwnG.since hO8 hS9; obtain ⟨A9, c9, rfl, hc9, hr9⟩ := hO9.rd (by omega) byL_len) | (at_builtin; have _t := tok3; refine wpList_append_bw rfl _ _ rfl hT9 v8 (PP ++ putL (m : Int) 2 ++ C) rfl hP9 _ A9 _ c9 KN rfl rfl hr9 hz3 ?_; intro vX wX hOX hSX hgX hwX; clear tok3))
              go_ret2
              exact ⟨_, by rw [E.out]; rfl, by rw [HGB.out]; exact hOX.low hS1.below.size, hS1.trans hSX⟩
    · have E := Lib.hid (show glE LL C = chkE LL m by rw [hG, hmm])
      have hB := Lib.hid (show glB LL C = [] by unfold glB; rw [if_neg]; rw [E.out]; exact he)
      have d0 : (chkE LL m == 0) = false := by simpa using he
      generalize chkE LL m = x at *
      clear h hC hm hN hmm hG
      go_enter Try.func38, Try.ntmps38
      go_wp2_with (go_at_call 81; (with_reducible refine (HCK.out _ (by (repeat (first | with_reducible (exact Since.refl _) | with_reducible assumption | with_reducible (refine Since.drew ?_) | with_reducible (refine Since.drewN ?_ _) | with_reducible (refine Since.alloc ?_ _) | (with_reducible (refine Since.setCell ?_ ?_ _); rotate_left; focus (first | (simp; done) | (simp; omega) | omega)) | (with_reducible (refine Since.trans ?_ (by with_reducible assumption))))))).mono ?_); rintro e w2 ⟨rfl, hS2⟩)
      go_ret2
      exact wrpost7_no E.out hB.out (by (repeat (first | with_reducible (exact Since.refl _) | with_reducible assumption | with_reducible (refine Since.drew ?_) | with_reducible (refine Since.drewN ?_ _) | with_reducible (refine Since.alloc ?_ _) | (with_reducible (refine Since.setCell ?_ ?_ _); rotate_left; focus (first | (simp; done) | (simp; omega) | omega)) | (with_reducible (refine Since.trans ?_ (by with_reducible assumption))))))
end Go.Proofs.Ytpplnapfpoloiaa
