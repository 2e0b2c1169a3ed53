/-
  Layer 12: the reference: Lift with what is its own; fail where nothing failed; visits that fail at once.
-/
import Derived.Test.YtcjjcjpkmjbfkaaExJ
import Derived.Test.YtcjjcjpkmjbfkaaMhG
import Derived.Test.YtcjjcjpkmjbfkaaSjH
import Derived.Test.YtcjjcjpkmjbfkaaCoH
namespace Go.Proofs.Ytcjjcjpkmjbfkaa
open Go.RowKit Go.ChangeShapes Go.WideShapes Go.Deep
set_option linter.unusedVariables false
set_option linter.unusedSimpArgs false

def RfLiftO (w : World) (LL : List (List Kt)) (e : Ending) (w' : World) : Prop :=
  ∃ v, e = .returned (.tuple #[v, .int .i64 0]) ∧ OwnO w' w.heap.size v (LL.map (List.map liftK)) ∧ Since w w'
set_option maxRecDepth 1000000 in
set_option maxHeartbeats 32000000 in
theorem rf_liftO (A : Option Addr) (c : Nat) (LL : List (List Kt)) (w : World) (h : RdOL w w.heap.size A LL) (hn : LL.length ≤ 1000000) (hm : ∀ L, L ∈ LL → L.length ≤ 1000000) (hall : allIn LL) :
    Calls Try.prog 18 #[.slice A LL.length c] w (RfLiftO w LL) := by
  obtain ⟨N, hN⟩ : ∃ N, N = LL.length := ⟨_, rfl⟩
  rw [← hN] at hn ⊢
  have HN := Lib.hid hN
  have HM := Lib.hid hm
  have HALL := Lib.hid hall
  clear hN hm hall
  go_enter Try.func18, Try.ntmps18
  go_wp2_with fail
  go_loopw [4, 12] (fun v y wr => ∃ (j : Nat), j ≤ N ∧ y = .int .i64 (j : Int) ∧ OwnO wr w.heap.size v ((LL.take j).map (List.map liftK)) ∧ Since w wr) (fun _ y _ => N - (intOf y).toNat)
  case atStart => exact ⟨0, by omega, rfl, OwnO.nil _ _, Since.refl _⟩
  case round =>
    obtain ⟨j, hj, rfl, hO, hS⟩ := hrel
    by_cases hjn : j < N
    · have hjn' : (j : Int) < N := by omega
      have hjL : j < LL.length := by rw [← HN.out]; exact hjn
      have hL : LL[j]? = some LL[j] := List.getElem?_eq_getElem hjL
      have hml := HM.out _ (List.mem_of_getElem? hL)
      have htk : (LL.take (j + 1)).map (List.map liftK) = (LL.take j).map (List.map liftK) ++ [LL[j].map liftK] := by rw [List.take_succ_eq_append_getElem hjL, List.map_append]; rfl
      have HTK := Lib.hid htk
      have hlt : ((LL.take j).map (List.map liftK)).length ≤ 1000000 := by rw [List.length_map, List.length_take]; omega
      have HLJ := Lib.hid hL
      clear htk
      generalize LL[j] = L at *
      obtain ⟨b, o, A', c', rfl, hb, hcell, hK⟩ := h.row hL
      have c1 := (hS.1 _ _ hb).trans hcell
      have hbw1 := hS.2.2.1 _ hb
      have hwz := hS.below.size
      obtain ⟨n, hnl⟩ : ∃ n, n = L.length := ⟨_, rfl⟩
      rw [← hnl] at hml c1
      have HNL := Lib.hid hnl
      have HLT := Lib.hid hlt
      clear hL h hcell hjL hnl hlt
      generalize (LL.take j).map (List.map liftK) = LJ at *
      obtain ⟨bs, hbs⟩ : ∃ bs, bs = wr.heap.size := ⟨_, rfl⟩
      have hbs1 : wr.heap.size ≤ bs := by omega
      have hbs2 : bs ≤ wr.heap.size := by omega
      clear hbs
      go_wp2_with fail
      go_loopw [7, 18] (fun v y wr' => ∃ k : Nat, k ≤ n ∧ y = .int .i64 (k : Int) ∧ OwnK wr' bs v ((L.take k).map liftK) ∧ Since wr wr') (fun _ y _ => n - (intOf y).toNat)
      case atStart => exact ⟨0, by omega, rfl, OwnG.nil _ _ _ _ _, Since.refl _⟩
      case round =>
        obtain ⟨k, hk, rfl, hOk, hSr⟩ := hrel
        by_cases hkn : k < n
        · have hkn' : (k : Int) < n := by omega
          have hkl : k < L.length := by rw [← HNL.out]; exact hkn
          have hkL : L[k]? = some L[k] := List.getElem?_eq_getElem hkl
          have hfill : (L.take (k + 1)).map liftK = (L.take k).map liftK ++ [liftK L[k]] := by rw [List.take_succ_eq_append_getElem hkl, List.map_append]; rfl
          have hol : ((L.take k).map liftK).length ≤ 1000000 := by rw [List.length_map, List.length_take]; omega
          obtain ⟨bk, ok, rfl, hbk, hck⟩ := hK (by omega)
          have hSw := hS.trans hSr
          have c1 := (hSw.1 _ _ hbk).trans (hck k _ hkL 0 (by omega))
          have c2 := (hSw.1 _ _ hbk).trans (hck k _ hkL 1 (by omega))
          have c3 := (hSw.1 _ _ hbk).trans (hck k _ hkL 2 (by omega))
          have hbw2 := hSw.2.2.1 _ hbk
          have HF := Lib.hid hfill
          have HKL := Lib.hid hkL
          have HOL := Lib.hid hol
          clear hfill hkL hck hK hol
          generalize L[k] = K at *
          obtain ⟨x, y, o⟩ := K
          simp only [knL, List.getD_cons_succ, List.getD_cons_zero, Nat.add_zero] at c1 c2 c3
          go_upto_region 9 with fail
          refine wp_named fun w6 hw6 => ?_
          have rT : Row w6 (wr.heap.size) 3 (Kf x y o) := by subst hw6; exact krow wr _ rfl _ _ _ _
          have hS6 : Since wr w6 := by subst hw6; (repeat (first | with_reducible (exact Since.refl _) | with_reducible assumption | with_reducible (refine Since.drew ?_) | with_reducible (refine Since.drewN ?_ _) | with_reducible (refine Since.alloc ?_ _) | (with_reducible (refine Since.setCell ?_ ?_ _); rotate_left; focus (first | (simp; done) | (simp; omega) | omega)) | (with_reducible (refine Since.trans ?_ (by with_reducible assumption)))))
          clear hw6 c1 c2 c3 hbw2
          have hbz : bs ≤ w6.heap.size := Nat.le_trans hbs2 (Nat.le_trans hSr.below.size hS6.below.size)
          have hOk := OwnG.since hOk hS6
          have hSr := hSr.trans hS6
          generalize wr.heap.size = tb at *
          obtain ⟨t1, t2, t3, t4⟩ := kcells rT
          have hin : inUnit ⟨x, y, o⟩ := HALL.out _ (List.mem_of_getElem? HLJ.out) _ (List.mem_of_getElem? HKL.out)
          · obtain ⟨v1, v2, v3, v4⟩ := hin
            simp only at v1 v2 v3 v4
            have d1 : decide (x < (-32768 : Int)) = false := by simp; omega
            have d2 : decide ((32767 : Int) < x) = false := by simp; omega
            have d3 : decide (y < (-32768 : Int)) = false := by simp; omega
            have d4 : decide ((32767 : Int) < y) = false := by simp; omega
            have u1 : IntKind.i64.wrap (64 * x) = 64 * x := IntWalk.i64_in _ (by omega)
            have u2 : IntKind.i64.wrap (64 * y) = 64 * y := IntWalk.i64_in _ (by omega)
            clear v1 v2 v3 v4
            go_wp2_with (at_builtin; refine wpList_append_g rfl _ _ 64 62 rfl (by omega) knL_len knL_one 24 Try.underlying64 infoKn bs _ _ rfl (OwnG.alloc hOk _) _ _ 1 [⟨64 * x, 64 * y, o⟩] rfl (kn_one w6 _ rfl _ ⟨64 * x, 64 * y, o⟩) ?_ ?_ ?_ ?_; (focus (have := HOL.out; simp only [List.length_cons, List.length_nil]; omega)); (focus (have := HOL.out; simp only [List.length_cons, List.length_nil, maxLen]; omega)); (focus (simp; omega)); intro v7 w7 hO7 hg7 hb7)
            go_roundw
            case rel => exact ⟨k + 1, by omega, by go_num, by rw [HF.out]; exact hO7, since_grown (hSr.alloc _) hg7 (fun q hq => Nat.le_trans hbs1 (hb7 q hq).1)⟩
            case measure => simp [intOf]; omega
        · obtain rfl : n = k := by omega
          have e : (L.take n).map liftK = L.map liftK := by rw [HNL.out, List.take_length]
          rw [e] at hOk
          have hOO := hO.since hSr
          have hz8 : w.heap.size ≤ wr.heap.size := (hS.trans hSr).below.size
          have hlow : w.heap.size ≤ bs := by omega
          obtain ⟨A7, c7, rfl, _, _⟩ := OwnG.rd (by omega) knL_len hOk
          rw [List.length_map] at hOk ⊢
          go_wp2_with (at_builtin; refine wpList_append_hd rfl _ _ rfl w.heap.size _ LJ rfl hOO _ 1 A7 L.length c7 (L.map liftK) rfl _ rfl (OwnG.lower hOk hlow) HLT.out hz8 ?_; intro v8 w8 hO8 hg8 hb8; have hS8 : Since w w8 := (since_grown ((hS.trans hSr).alloc _) hg8 (fun q hq => (hb8 q hq).1)))
          go_roundw
          case rel => exact ⟨j + 1, by omega, by go_num, by rw [HTK.out]; exact hO8, hS8⟩
          case measure => simp [intOf]; omega
    · obtain rfl : N = j := by omega
      have e : LL.take N = LL := by rw [HN.out]; exact List.take_length
      rw [e] at hO
      obtain ⟨A', c', rfl, hc', _⟩ := hO.rd
      go_wp2_with fail
      rw [List.length_map] at hO ⊢
      refine bodyPost_ret (v := .tuple #[.slice A' LL.length c', .int .i64 0]) (by simp only [results, Try.results18]; go_simp) rfl (?_ : RfLiftO w LL _ _)
      exact ⟨_, rfl, hO, hS⟩

set_option maxRecDepth 100000 in
set_option maxHeartbeats 8000000 in
theorem rf_fail0 (q : Nat) (A : Option Addr) (n c : Nat) (p : Int) (w : World) (hR : BoxX w q (RdrF A n c p 0)) :
    Calls Try.prog 35 #[.pointer (some ⟨q, 0, none⟩), .int .i64 0] w fun e w' => e = .returned (.tuple #[]) ∧ BoxX w' q (RdrF A n c p 0) ∧ Nigh q w w' ∧ ∀ b o, w'.cell? ⟨b, o, none⟩ = w.cell? ⟨b, o, none⟩ := by
  obtain ⟨c0, c1, c2, f1, f2, hq⟩ := rdr_cells hR.row
  have H1 : BoxX (w.setCell ⟨q, 2, none⟩ (.int .i64 0)) q (RdrF A n c p 0) ∧ Nigh q w (w.setCell ⟨q, 2, none⟩ (.int .i64 0)) ∧ ∀ b o, (w.setCell ⟨q, 2, none⟩ (.int .i64 0)).cell? ⟨b, o, none⟩ = w.cell? ⟨b, o, none⟩ := ⟨hR.er 0, (Nigh.refl q w).set _ _, fun b o => by
    rw [cell_set]
    split
    · rename_i e
      obtain ⟨rfl, rfl⟩ := e
      rw [c2]; simp
    · rfl⟩
  have HH := Lib.hid H1
  clear H1 hR
  go_enter Try.func35, Try.ntmps35
  go_wp2_with fail
  first | go_end0 | (refine bodyPost_ret (results_none rfl _ _ _) rfl ?_)
  exact ⟨rfl, HH.out⟩
set_option maxRecDepth 1000000 in
set_option maxHeartbeats 16000000 in
theorem rf_visit_no (q : Nat) (A : Option Addr) (N c : Nat) (V V1 : Int) (id d : Int) (w : World) (hR : BoxX w q (RdrF A N c V 0)) (hV : IntKind.i64.wrap (V + 1) = V1) (hN : N ≤ 9223372036854775807) (hE : first12 N id d V1 ≠ 0) :
    Calls Try.prog 22 #[.pointer (some ⟨q, 0, none⟩), .int .i64 id, .int .i64 d] w fun e w' => e = .returned (.slice none 0 0) ∧ BoxX w' q (RdrF A N c V1 (first12 N id d V1)) ∧ Nigh q w w' := by
  have hNI : (N : Int) ≤ 9223372036854775807 := by omega
  obtain ⟨c0, c1, c2, f1, f2, hq⟩ := rdr_cells hR.row
  have hR1 := hR.at V1
  have hN1 := (Nigh.refl q w).set 1 (.int .i64 V1)
  have HFL := Lib.hid (fun (x E : Int) (w2 : World) (h2 : BoxX w2 q (RdrF A N c V1 E)) => rf_fail q A N c V1 E x w2 h2)
  clear hR
  obtain ⟨X, hX⟩ : ∃ X, X = first12 N id d V1 := ⟨_, rfl⟩
  rw [← hX] at hE ⊢
  unfold first12 at hX
  by_cases h1 : 16 < d
  · rw [if_pos h1] at hX
    by_cases h2 : id < 0
    · have d3 : decide (id < 0) = true := by simpa using h2
      by_cases h5 : 4096 < V1
      · skip
        subst hX
        clear hE
        go_enter Try.func22, Try.ntmps22
        go_wp2_with (go_at_call 35; (with_reducible refine (HFL.out _ _ _ (by with_reducible assumption)).mono ?_); rintro e w3 ⟨rfl, hR3, hN3⟩; simp only [if_true, Int.reduceEq, if_false] at hR3; have hN4 := Nigh.trans (a := w) (by with_reducible assumption) hN3; obtain ⟨k0, k1, k2, k3, k4, k5⟩ := rdr_cells hR3.row)
        go_ret
        exact ⟨by first | rfl | simp, by with_reducible assumption, by with_reducible assumption⟩
      · skip
        subst hX
        clear hE
        go_enter Try.func22, Try.ntmps22
        go_wp2_with (go_at_call 35; (with_reducible refine (HFL.out _ _ _ (by with_reducible assumption)).mono ?_); rintro e w3 ⟨rfl, hR3, hN3⟩; simp only [if_true, Int.reduceEq, if_false] at hR3; have hN4 := Nigh.trans (a := w) (by with_reducible assumption) hN3; obtain ⟨k0, k1, k2, k3, k4, k5⟩ := rdr_cells hR3.row)
        go_ret
        exact ⟨by first | rfl | simp, by with_reducible assumption, by with_reducible assumption⟩
    · have d3 : decide (id < 0) = false := by simpa using h2
      by_cases h4 : (N : Int) ≤ id
      · skip
        by_cases h5 : 4096 < V1
        · skip
          subst hX
          clear hE
          go_enter Try.func22, Try.ntmps22
          go_wp2_with (go_at_call 35; (with_reducible refine (HFL.out _ _ _ (by with_reducible assumption)).mono ?_); rintro e w3 ⟨rfl, hR3, hN3⟩; simp only [if_true, Int.reduceEq, if_false] at hR3; have hN4 := Nigh.trans (a := w) (by with_reducible assumption) hN3; obtain ⟨k0, k1, k2, k3, k4, k5⟩ := rdr_cells hR3.row)
          go_ret
          exact ⟨by first | rfl | simp, by with_reducible assumption, by with_reducible assumption⟩
        · skip
          subst hX
          clear hE
          go_enter Try.func22, Try.ntmps22
          go_wp2_with (go_at_call 35; (with_reducible refine (HFL.out _ _ _ (by with_reducible assumption)).mono ?_); rintro e w3 ⟨rfl, hR3, hN3⟩; simp only [if_true, Int.reduceEq, if_false] at hR3; have hN4 := Nigh.trans (a := w) (by with_reducible assumption) hN3; obtain ⟨k0, k1, k2, k3, k4, k5⟩ := rdr_cells hR3.row)
          go_ret
          exact ⟨by first | rfl | simp, by with_reducible assumption, by with_reducible assumption⟩
      · skip
        by_cases h5 : 4096 < V1
        · skip
          subst hX
          clear hE
          go_enter Try.func22, Try.ntmps22
          go_wp2_with (go_at_call 35; (with_reducible refine (HFL.out _ _ _ (by with_reducible assumption)).mono ?_); rintro e w3 ⟨rfl, hR3, hN3⟩; simp only [if_true, Int.reduceEq, if_false] at hR3; have hN4 := Nigh.trans (a := w) (by with_reducible assumption) hN3; obtain ⟨k0, k1, k2, k3, k4, k5⟩ := rdr_cells hR3.row)
          go_ret
          exact ⟨by first | rfl | simp, by with_reducible assumption, by with_reducible assumption⟩
        · skip
          subst hX
          clear hE
          go_enter Try.func22, Try.ntmps22
          go_wp2_with (go_at_call 35; (with_reducible refine (HFL.out _ _ _ (by with_reducible assumption)).mono ?_); rintro e w3 ⟨rfl, hR3, hN3⟩; simp only [if_true, Int.reduceEq, if_false] at hR3; have hN4 := Nigh.trans (a := w) (by with_reducible assumption) hN3; obtain ⟨k0, k1, k2, k3, k4, k5⟩ := rdr_cells hR3.row)
          go_ret
          exact ⟨by first | rfl | simp, by with_reducible assumption, by with_reducible assumption⟩
  · rw [if_neg h1] at hX
    by_cases h2 : id < 0
    · have d3 : decide (id < 0) = true := by simpa using h2
      rw [if_pos (.inl h2)] at hX
      by_cases h5 : 4096 < V1
      · skip
        subst hX
        clear hE
        go_enter Try.func22, Try.ntmps22
        go_wp2_with (go_at_call 35; (with_reducible refine (HFL.out _ _ _ (by with_reducible assumption)).mono ?_); rintro e w3 ⟨rfl, hR3, hN3⟩; simp only [if_true, Int.reduceEq, if_false] at hR3; have hN4 := Nigh.trans (a := w) (by with_reducible assumption) hN3; obtain ⟨k0, k1, k2, k3, k4, k5⟩ := rdr_cells hR3.row)
        go_ret
        exact ⟨by first | rfl | simp, by with_reducible assumption, by with_reducible assumption⟩
      · skip
        subst hX
        clear hE
        go_enter Try.func22, Try.ntmps22
        go_wp2_with (go_at_call 35; (with_reducible refine (HFL.out _ _ _ (by with_reducible assumption)).mono ?_); rintro e w3 ⟨rfl, hR3, hN3⟩; simp only [if_true, Int.reduceEq, if_false] at hR3; have hN4 := Nigh.trans (a := w) (by with_reducible assumption) hN3; obtain ⟨k0, k1, k2, k3, k4, k5⟩ := rdr_cells hR3.row)
        go_ret
        exact ⟨by first | rfl | simp, by with_reducible assumption, by with_reducible assumption⟩
    · have d3 : decide (id < 0) = false := by simpa using h2
      by_cases h4 : (N : Int) ≤ id
      · rw [if_pos (.inr h4)] at hX
        by_cases h5 : 4096 < V1
        · skip
          subst hX
          clear hE
          go_enter Try.func22, Try.ntmps22
          go_wp2_with (go_at_call 35; (with_reducible refine (HFL.out _ _ _ (by with_reducible assumption)).mono ?_); rintro e w3 ⟨rfl, hR3, hN3⟩; simp only [if_true, Int.reduceEq, if_false] at hR3; have hN4 := Nigh.trans (a := w) (by with_reducible assumption) hN3; obtain ⟨k0, k1, k2, k3, k4, k5⟩ := rdr_cells hR3.row)
          go_ret
          exact ⟨by first | rfl | simp, by with_reducible assumption, by with_reducible assumption⟩
        · skip
          subst hX
          clear hE
          go_enter Try.func22, Try.ntmps22
          go_wp2_with (go_at_call 35; (with_reducible refine (HFL.out _ _ _ (by with_reducible assumption)).mono ?_); rintro e w3 ⟨rfl, hR3, hN3⟩; simp only [if_true, Int.reduceEq, if_false] at hR3; have hN4 := Nigh.trans (a := w) (by with_reducible assumption) hN3; obtain ⟨k0, k1, k2, k3, k4, k5⟩ := rdr_cells hR3.row)
          go_ret
          exact ⟨by first | rfl | simp, by with_reducible assumption, by with_reducible assumption⟩
      · rw [if_neg (by omega)] at hX
        by_cases h5 : 4096 < V1
        · rw [if_pos h5] at hX
          subst hX
          clear hE
          go_enter Try.func22, Try.ntmps22
          go_wp2_with (go_at_call 35; (with_reducible refine (HFL.out _ _ _ (by with_reducible assumption)).mono ?_); rintro e w3 ⟨rfl, hR3, hN3⟩; simp only [if_true, Int.reduceEq, if_false] at hR3; have hN4 := Nigh.trans (a := w) (by with_reducible assumption) hN3; obtain ⟨k0, k1, k2, k3, k4, k5⟩ := rdr_cells hR3.row)
          go_ret
          exact ⟨by first | rfl | simp, by with_reducible assumption, by with_reducible assumption⟩
        · rw [if_neg h5] at hX
          exact absurd hX hE
end Go.Proofs.Ytcjjcjpkmjbfkaa
