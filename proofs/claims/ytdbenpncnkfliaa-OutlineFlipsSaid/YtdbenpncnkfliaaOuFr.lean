/-
  Layer 11: the reference's 'Flip', both 'Knots', walked.
-/
import Derived.Test.YtdbenpncnkfliaaOuLr
import Derived.Test.YtdbenpncnkfliaaOuY
namespace Go.Proofs.Ytdbenpncnkfliaa
open Go.RowKit Go.ChangeShapes Go.WideShapes Go.Deep
set_option linter.unusedVariables false

set_option maxRecDepth 1000000 in
set_option maxHeartbeats 16000000 in
theorem rf_flip (A : Option Addr) (c : Nat) (LL : List (List Kt)) (w : World) (h : RdOL w w.heap.size A LL) (hn : LL.length ≤ 1000000) (hm : ∀ L, L ∈ LL → L.length ≤ 1000000) :
    Calls Try.prog 24 #[.slice A LL.length c] w fun e w' => ∃ A' c', e = .returned (.slice A' LL.length c') ∧ RdOL w' w'.heap.size A' (LL.map List.reverse) ∧ Since w w' := by
  obtain ⟨N, hN⟩ : ∃ N, N = LL.length := ⟨_, rfl⟩
  rw [← hN] at hn ⊢
  have HN := Lib.hid hN
  have HM := Lib.hid hm
  clear hN hm
  go_enter Try.func24, Try.ntmps24
  go_wp2_with fail
  go_loopw [3, 10] (fun v y wr => ∃ (j : Nat), j ≤ N ∧ y = .int .i64 (j : Int) ∧ OwnO wr w.heap.size v ((LL.take j).map List.reverse) ∧ Since w wr) (fun _ y _ => N - (intOf y).toNat)
  case atStart => exact ⟨0, by omega, rfl, OwnO.nil _ _, Since.refl _⟩
  case round =>
    obtain ⟨j, hj, rfl, hO, hS⟩ := hrel
    by_cases hjn : j < N
    · have hjn' : (j : Int) < N := by omega
      have hjL : j < LL.length := by rw [← HN.out]; exact hjn
      have hL : LL[j]? = some LL[j] := List.getElem?_eq_getElem hjL
      have hml := HM.out _ (List.mem_of_getElem? hL)
      have htk : (LL.take (j + 1)).map List.reverse = (LL.take j).map List.reverse ++ [LL[j].reverse] := by rw [List.take_succ_eq_append_getElem hjL, List.map_append]; rfl
      have HTK := Lib.hid htk
      have hlt : ((LL.take j).map List.reverse).length ≤ 1000000 := by rw [List.length_map, List.length_take]; omega
      have HLT := Lib.hid hlt
      clear htk hlt
      generalize LL[j] = L at *
      obtain ⟨b, o, A', c', rfl, hb, hcell, hK⟩ := h.row hL
      have c1 := (hS.1 _ _ hb).trans hcell
      have hbw1 := hS.2.2.1 _ hb
      obtain ⟨n, hnl⟩ : ∃ n, n = L.length := ⟨_, rfl⟩
      rw [← hnl] at hml c1
      have HNL := Lib.hid hnl
      clear hL h hcell hjL hnl
      generalize (LL.take j).map List.reverse = LJ at *
      obtain ⟨bs, hbs⟩ : ∃ bs, bs = wr.heap.size := ⟨_, rfl⟩
      have hbs1 : wr.heap.size ≤ bs := by omega
      have hbs2 : bs ≤ wr.heap.size := by omega
      clear hbs
      have u0 : IntKind.i64.wrap ((n : Int) - 1) = (n : Int) - 1 := IntWalk.i64_in _ (by omega)
      go_wp2_with fail
      go_loopw [6, 7] (fun v y wr' => ∃ k : Nat, k ≤ n ∧ y = .int .i64 ((n : Int) - 1 - (k : Int)) ∧ OwnK wr' bs v (L.reverse.take k) ∧ Since wr wr') (fun _ y _ => (intOf y + 1).toNat)
      case atStart => exact ⟨0, by omega, by simp, OwnG.nil _ _ _ _ _, Since.refl _⟩
      case round =>
        obtain ⟨k, hk, rfl, hOk, hSr⟩ := hrel
        by_cases hkn : k < n
        · obtain ⟨J, hJ⟩ : ∃ J, J = n - 1 - k := ⟨_, rfl⟩
          have hJI : (n : Int) - 1 - (k : Int) = (J : Int) := by omega
          have hJn : J < n := by omega
          have hJn' : (J : Int) < (n : Int) := by omega
          have hJ0 : decide ((0 : Int) ≤ (J : Int)) = true := decide_eq_true (by omega)
          have hJ1 : (0 : Int) ≤ (J : Int) := by omega
          have hkl : J < L.length := by rw [← HNL.out]; exact hJn
          have hkL : L[J]? = some L[J] := List.getElem?_eq_getElem hkl
          have hkr : k < L.reverse.length := by rw [List.length_reverse, ← HNL.out]; exact hkn
          have hfill : L.reverse.take (k + 1) = L.reverse.take k ++ [L[J]] := by
            rw [List.take_succ_eq_append_getElem hkr]
            congr 2
            rw [List.getElem_reverse]
            congr 1
            rw [← HNL.out, hJ]
          have hol : (L.reverse.take k).length ≤ 1000000 := by rw [List.length_take]; omega
          obtain ⟨bk, ok, rfl, hbk, hck⟩ := hK (by omega)
          have hSw := hS.trans hSr
          have c1 := (hSw.1 _ _ hbk).trans (hck J _ hkL 0 (by omega))
          have c2 := (hSw.1 _ _ hbk).trans (hck J _ hkL 1 (by omega))
          have c3 := (hSw.1 _ _ hbk).trans (hck J _ hkL 2 (by omega))
          have hbw2 := hSw.2.2.1 _ hbk
          have HF := Lib.hid hfill
          have HOL := Lib.hid hol
          have HJ := Lib.hid hJ
          have u1 : IntKind.i64.wrap ((J : Int) - 1) = (J : Int) - 1 := IntWalk.i64_in _ (by omega)
          have hbz : bs ≤ wr.heap.size := Nat.le_trans hbs2 hSr.below.size
          rw [hJI]
          generalize L[J] = K at *
          clear hfill hkL hck hK hol hkr hkl hJ hJI
          obtain ⟨x, y, o⟩ := K
          simp only [knL, List.getD_cons_succ, List.getD_cons_zero, Nat.add_zero] at c1 c2 c3
          go_wp2_with (at_builtin; refine wpList_append_g rfl _ _ 23 39 rfl (by omega) knL_len knL_one 24 Try.underlying23 infoKn bs _ _ rfl (OwnG.alloc hOk _) _ _ 1 [⟨x, y, o⟩] rfl (kn_one wr _ rfl _ ⟨x, y, o⟩) ?_ ?_ ?_ ?_; (focus (have := HOL.out; simp only [List.length_cons, List.length_nil]; omega)); (focus (have := HOL.out; simp only [List.length_cons, List.length_nil, maxLen]; omega)); (focus (simp; omega)); intro v7 w7 hO7 hg7 hb7)
          go_roundw
          case rel => exact ⟨k + 1, by omega, by have := HJ.out; congr 1; omega, by rw [HF.out]; exact hO7, since_grown (hSr.alloc _) hg7 (fun q hq => Nat.le_trans hbs1 (hb7 q hq).1)⟩
          case measure => simp [intOf]
        · obtain rfl : n = k := by omega
          have hd : decide ((0 : Int) ≤ (n : Int) - 1 - (n : Int)) = false := decide_eq_false (by omega)
          have hd2 : ¬ (0 : Int) ≤ (n : Int) - 1 - (n : Int) := by omega
          have e : L.reverse.take n = L.reverse := List.take_of_length_le (by rw [List.length_reverse, ← HNL.out]; exact Nat.le_refl _)
          rw [e] at hOk
          have hOO := hO.since hSr
          have hz8 : w.heap.size ≤ wr.heap.size := (hS.trans hSr).below.size
          have hlow : w.heap.size ≤ bs := Nat.le_trans hS.below.size hbs1
          obtain ⟨A7, c7, rfl, _, _⟩ := OwnG.rd (by omega) knL_len hOk
          rw [List.length_reverse] at hOk ⊢
          go_wp2_with (at_builtin; refine wpList_append_hd rfl _ _ rfl w.heap.size _ LJ rfl hOO _ 1 A7 L.length c7 L.reverse rfl _ rfl (OwnG.lower hOk hlow) HLT.out hz8 ?_; intro v8 w8 hO8 hg8 hb8; have hS8 : Since w w8 := (since_grown ((hS.trans hSr).alloc _) hg8 (fun q hq => (hb8 q hq).1)))
          go_roundw
          case rel => exact ⟨j + 1, by omega, by go_num, by rw [HTK.out]; exact hO8, hS8⟩
          case measure => simp [intOf]; omega
    · obtain rfl : N = j := by omega
      have e : LL.take N = LL := by rw [HN.out]; exact List.take_length
      rw [e] at hO
      obtain ⟨A', c', rfl, hc', hr⟩ := hO.rd
      rw [List.length_map, ← HN.out]
      go_wp2_with fail
      go_ret
      exact ⟨A', c', rfl, hr, hS⟩
/-- How many knots an outline has. -/
def KnotsOut (w : World) (LL : List (List Kt)) (e : Ending) (w' : World) : Prop := e = .returned (.int .i64 ((sumL LL : Nat) : Int)) ∧ Since w w'

set_option maxRecDepth 100000 in
set_option maxHeartbeats 8000000 in
theorem ou_knots (A : Option Addr) (c : Nat) (LL : List (List Kt)) (w : World) (h : RdOL w w.heap.size A LL) (hn : LL.length ≤ 600) (hm : ∀ L, L ∈ LL → L.length ≤ 5000) :
    Calls Try.prog 25 #[.slice A LL.length c] w (KnotsOut w LL) := by
  obtain ⟨N, hN⟩ : ∃ N, N = LL.length := ⟨_, rfl⟩
  rw [← hN] at hn ⊢
  have HN := Lib.hid hN
  have HM := Lib.hid hm
  clear hN hm
  go_enter Try.func25, Try.ntmps25
  go_wp2_with fail
  go_loopw [3, 8] (fun v y wr => ∃ (j : Nat), j ≤ N ∧ y = .int .i64 (j : Int) ∧ v = .int .i64 ((sumL (LL.take j) : Nat) : Int) ∧ sumL (LL.take j) ≤ 5000 * j ∧ Since w wr) (fun _ y _ => N - (intOf y).toNat)
  case atStart => exact ⟨0, by omega, rfl, rfl, by simp [sumL], Since.refl _⟩
  case round =>
    obtain ⟨j, hj, rfl, rfl, hs, hS⟩ := hrel
    by_cases hjn : j < N
    · have hjn' : (j : Int) < N := by omega
      have hL : LL[j]? = some (LL[j]'(by rw [← HN.out]; exact hjn)) := List.getElem?_eq_getElem _
      have hml := HM.out _ (List.mem_of_getElem? hL)
      generalize (LL[j]'(by rw [← HN.out]; exact hjn)) = L at *
      obtain ⟨b, o, A', c', rfl, hb, hcell, hK⟩ := h.row hL
      have hst := sum_take hL
      have HST := Lib.hid hst
      have c1 := (hS.1 _ _ hb).trans hcell
      have hbw := hS.2.2.1 _ hb
      generalize hll : L.length = n at *
      generalize sumL (LL.take j) = S at *
      have u1 : IntKind.i64.wrap ((S : Int) + (n : Int)) = (S : Int) + (n : Int) := IntWalk.i64_in _ (by omega)
      clear hL hst h hcell hK
      go_wp2_with fail
      go_roundw
      case rel => exact ⟨j + 1, by omega, by go_num, by rw [HST.out]; go_num, by rw [HST.out]; omega, hS⟩
      case measure => simp [intOf]; omega
    · obtain rfl : N = j := by omega
      have e : LL.take N = LL := by rw [HN.out]; exact List.take_length
      rw [e]
      go_wp2_with fail
      go_ret
      exact ⟨rfl, hS⟩

set_option maxRecDepth 100000 in
set_option maxHeartbeats 8000000 in
theorem rf_knots (A : Option Addr) (c : Nat) (LL : List (List Kt)) (w : World) (h : RdOL w w.heap.size A LL) (hn : LL.length ≤ 600) (hm : ∀ L, L ∈ LL → L.length ≤ 5000) :
    Calls Try.prog 26 #[.slice A LL.length c] w (KnotsOut w LL) := by
  obtain ⟨N, hN⟩ : ∃ N, N = LL.length := ⟨_, rfl⟩
  rw [← hN] at hn ⊢
  have HN := Lib.hid hN
  have HM := Lib.hid hm
  clear hN hm
  go_enter Try.func26, Try.ntmps26
  go_wp2_with fail
  go_loopw [3, 8] (fun v y wr => ∃ (j : Nat), j ≤ N ∧ y = .int .i64 (j : Int) ∧ v = .int .i64 ((sumL (LL.take j) : Nat) : Int) ∧ sumL (LL.take j) ≤ 5000 * j ∧ Since w wr) (fun _ y _ => N - (intOf y).toNat)
  case atStart => exact ⟨0, by omega, rfl, rfl, by simp [sumL], Since.refl _⟩
  case round =>
    obtain ⟨j, hj, rfl, rfl, hs, hS⟩ := hrel
    by_cases hjn : j < N
    · have hjn' : (j : Int) < N := by omega
      have hL : LL[j]? = some (LL[j]'(by rw [← HN.out]; exact hjn)) := List.getElem?_eq_getElem _
      have hml := HM.out _ (List.mem_of_getElem? hL)
      generalize (LL[j]'(by rw [← HN.out]; exact hjn)) = L at *
      obtain ⟨b, o, A', c', rfl, hb, hcell, hK⟩ := h.row hL
      have hst := sum_take hL
      have HST := Lib.hid hst
      have c1 := (hS.1 _ _ hb).trans hcell
      have hbw := hS.2.2.1 _ hb
      generalize hll : L.length = n at *
      generalize sumL (LL.take j) = S at *
      have u1 : IntKind.i64.wrap ((S : Int) + (n : Int)) = (S : Int) + (n : Int) := IntWalk.i64_in _ (by omega)
      clear hL hst h hcell hK
      go_wp2_with fail
      go_roundw
      case rel => exact ⟨j + 1, by omega, by go_num, by rw [HST.out]; go_num, by rw [HST.out]; omega, hS⟩
      case measure => simp [intOf]; omega
    · obtain rfl : N = j := by omega
      have e : LL.take N = LL := by rw [HN.out]; exact List.take_length
      rw [e]
      go_wp2_with fail
      go_ret
      exact ⟨rfl, hS⟩

end Go.Proofs.Ytdbenpncnkfliaa
