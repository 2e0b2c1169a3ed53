/-
  Layer 7: readPlaces, walked, where a number can't be read.
-/
import Derived.Test.YtcjjcjpkmjbfkaaMhC
namespace Go.Proofs.Ytcjjcjpkmjbfkaa
open Go.RowKit Go.ChangeShapes Go.WideShapes Go.Deep
set_option linter.unusedVariables false
set_option linter.unusedSimpArgs false


set_option maxRecDepth 100000 in
set_option maxHeartbeats 8000000 in
theorem si_places_no2 (A : Option Addr) (n c : Nat) (f : Nat → Int) (p : Nat) (B : Option Addr) (m d : Nat) (G : List Int) (w : World) (h : Rd w w.heap.size A n (U8 f)) (hf : ∀ j, j < n → 0 ≤ f j ∧ f j ≤ 255) (hg : Rd w w.heap.size B m (I64 (fnL G))) (hm : m = G.length) (hG : Bytes G) (hpn : p ≤ n) (hn : n ≤ 140737488355328) (hm4 : m ≤ 4096)
    (E : Int) (hE : E ≠ 0) (he : (plGo f n 2 16 G 0 p).e = E) :
    Calls Try.prog 68 #[.slice A n c, .int .i64 p, .slice B m d, .int .i64 2, .int .i64 16] w fun e w' => e = .returned (.tuple #[.slice none 0 0, .int .i64 0, .int .i64 E]) ∧ Since w w' := by
  have b1 : 8 * m ≤ 281474976710656 := by omega
  have b2 : m ≤ maxLen := by simp only [maxLen]; omega
  have hm5 : (m : Int) ≤ 4096 := by omega
  have H0 := Lib.hid (show (plGo f n 2 16 (G.drop 0) 0 p).e = E from he)
  have HG := Lib.hid hG
  have HM := Lib.hid hm
  have HF := Lib.hid hf
  clear he hG hm hf
  obtain ⟨i0, hi0, hz0, hz1, hz2⟩ := info_parts infoIn0
  go_enter Try.func68, Try.ntmps68
  go_wp2_with (at_make; refine wpList_make_tab _ (by rfl) _ _ _ (by rfl) 3 i0 .i64 8 Try.underlying72 hi0 hz0 hz1 hz2 .i64 .i64 m (by rfl) (by rfl) b1 b2 ?_; intro w1 hown1 hS1)
  go_loopw [1, 14, 25] (fun qv pv y wr => ∃ (j : Nat) (X : List Int) (v : Int) (q : Nat), j ≤ m ∧ X.length = j ∧ qv = .int .i64 (q : Int) ∧ pv = .int .i64 v ∧ y = .int .i64 (j : Int) ∧ q ≤ n ∧ (-32768 ≤ v ∧ v ≤ 32767) ∧ Since w wr ∧ Row wr w.heap.size m (I64 (fun t => if t < j then fnL X t else 0)) ∧ Hid ((plGo f n 2 16 (G.drop j) v q).e = E)) (fun _ _ y _ => m - (intOf y).toNat)
  case atStart => exact ⟨0, [], 0, p, by omega, rfl, rfl, rfl, rfl, hpn, by omega, hS1, (row_of_own hown1).congr (fun q hq => by simp only [I64, IntRow]; rw [if_neg (by omega)]), H0⟩
  case round =>
    obtain ⟨j, X, v, q, hj, hX, rfl, rfl, rfl, hq, hv, hSr, hR, hT⟩ := hrel
    by_cases hjm : j < m
    · have hjm' : (j : Int) < (m : Int) := by omega
      have hjG : j < G.length := by rw [← HM.out]; exact hjm
      have hcell := hR.1 j hjm
      have hfr := hR.2.1 j
      have t1 := hT.out
      have hgr := HG.out (fnL G j) (List.mem_of_getElem? (fnL_get hjG))
      have hdrop : G.drop j = fnL G j :: G.drop (j + 1) := by
        rw [List.drop_eq_getElem_cons hjG]
        congr 1
        have := fnL_get hjG
        rw [List.getElem?_eq_getElem hjG] at this
        exact Option.some.inj this
      rw [hdrop] at t1
      have k0 := pl_stop (by rw [t1]; exact hE)
      obtain ⟨s, hs, hb1⟩ := and7_2 hgr.1 hgr.2
      obtain ⟨u, hu, hb2⟩ := and7_16 hgr.1 hgr.2
      have ew : sw7 2 16 (fnL G j) = swB s u := by rw [swB_is, hs, hu]
      have ev : sv7 f 2 16 (fnL G j) q = svB f s u q := by rw [svB_is, hs, hu]
      rw [ew, ev, t1] at k0
      obtain ⟨gb, go, rfl, gl, gc⟩ := hg.on hSr (by omega)
      have gcj := gc j hjm
      have hW : swB s u ≤ 2 := by unfold swB; split <;> (try split) <;> omega
      have K1 : q + swB s u ≤ n → Calls Try.prog 71 #[.slice A n c, .int .i64 q, .bool s, .bool u] wr fun e w' => e = .returned (.tuple #[.int .i64 (svB f s u q), .int .i64 (swB s u), .int .i64 0]) ∧ w' = wr := fun k1 => si_step A n c f q q s u wr (h.on hSr) HF.out rfl k1 hn
      have K0 : n < q + swB s u → Calls Try.prog 71 #[.slice A n c, .int .i64 q, .bool s, .bool u] wr fun e w' => e = .returned (.tuple #[.int .i64 0, .int .i64 (swB s u), .int .i64 3]) ∧ w' = wr := fun k1 => si_step_no A n c f q q s u wr (h.on hSr) HF.out rfl hq k1 hn
      have hFt := si_fits (v + svB f s u q)
      have hZ : q + swB s u ≤ n → -65535 ≤ svB f s u q ∧ svB f s u q ≤ 65535 := fun k1 => by
        unfold swB at k1
        unfold svB
        cases s <;> cases u <;> simp only [if_true, if_false, Bool.false_eq_true] at k1 ⊢
        · have := numAt_range (f := f) (p := q) (k := 2) (fun j hj => HF.out j (by omega))
          simp at this
          unfold sgn; simp only [Int.reducePow]; split <;> omega
        · omega
        · have := HF.out q (by omega); omega
        · have := HF.out q (by omega); omega
      have HN := Lib.hid (show q + swB s u ≤ n ∧ Sh (v + svB f s u q) ∧ E = (plGo f n 2 16 (G.drop (j + 1)) (v + svB f s u q) (q + swB s u)).e → (plGo f n 2 16 (G.drop (j + 1)) (v + svB f s u q) (q + swB s u)).e = E from fun h => h.2.2.symm)
      generalize hrest : (plGo f n 2 16 (G.drop (j + 1)) (v + svB f s u q) (q + swB s u)).e = RE at k0 HN
      have HR := Lib.hid hrest
      clear hrest t1 ew ev hs hu hdrop hT hgr
      have HGJ : ∃ gj, gj = fnL G j := ⟨_, rfl⟩
      obtain ⟨gj, hgj⟩ := HGJ
      rw [← hgj] at hb1 hb2
      have gcj' : wr.cell? ⟨gb, go + j, none⟩ = some (.int .i64 gj) := by rw [gcj, hgj]; rfl
      clear gcj hgj gc h hg
      obtain ⟨z, hz⟩ : ∃ z, z = svB f s u q := ⟨_, rfl⟩
      rw [← hz] at K1 hFt k0 HN hZ HR
      obtain ⟨W, hWz⟩ : ∃ W, W = swB s u := ⟨_, rfl⟩
      rw [← hWz] at K1 K0 HN hW k0 hZ HR
      clear hz hWz
      have hW0 : (W : Int) ≤ 2 := by omega
      have hqn : (q : Int) ≤ 140737488355328 := by omega
      rcases k0 with ⟨k1, k2⟩ | ⟨k1, k2, k3⟩ | ⟨k1, k2, k3⟩
      · have hC := K0 k1
        subst k2
        clear K0 K1 hFt HN hZ HR
        cases s <;> cases u <;> simp only [if_true, if_false, Bool.false_eq_true] at hb1 hb2
        all_goals
          go_wp2_with (go_at_call 71; (with_reducible refine hC.mono ?_); rintro e w2 ⟨rfl, rfl⟩)
          go_ret3
          exact ⟨by first | rfl | simp, hSr⟩
      · have hC := K1 k1
        have hz2 := hZ k1
        rw [decide_eq_false k2] at hFt
        subst k3
        clear K0 K1 HN hZ HR
        cases s <;> cases u <;> simp only [if_true, if_false, Bool.false_eq_true] at hb1 hb2
        all_goals
          go_wp2_with (first | (go_at_call 71; (with_reducible refine hC.mono ?_); rintro e w2 ⟨rfl, rfl⟩) | (go_at_call 72; (with_reducible refine (hFt _).mono ?_); rintro e w2 ⟨rfl, rfl⟩))
          go_ret3
          exact ⟨by first | rfl | simp, hSr⟩
      have hC := K1 k1
      rw [decide_eq_true k2] at hFt
      have k2' : -32768 ≤ v + z ∧ v + z ≤ 32767 := k2
      have hNx := Lib.hid (HR.out.trans k3.symm)
      clear K0 K1 HN hZ HR k3 k2
      cases s <;> cases u <;> simp only [if_true, if_false, Bool.false_eq_true] at hb1 hb2
      all_goals
        go_wp2_with (first | (go_at_call 71; (with_reducible refine hC.mono ?_); rintro e w2 ⟨rfl, rfl⟩) | (go_at_call 72; (with_reducible refine (hFt _).mono ?_); rintro e w2 ⟨rfl, rfl⟩))
        go_roundw
        case rel =>
          refine ⟨j + 1, X ++ [v + z], v + z, q + W, by omega, by rw [List.length_append, hX]; rfl, by first | rfl | go_num | simp, by first | rfl | go_num | simp, by first | rfl | go_num | simp, by omega, k2', by (repeat (first | with_reducible (exact Since.refl _) | with_reducible assumption | with_reducible (refine Since.drew ?_) | with_reducible (refine Since.drewN ?_ _) | with_reducible (refine Since.alloc ?_ _) | (with_reducible (refine Since.setCell ?_ ?_ _); rotate_left; focus (first | (simp; done) | (simp; omega) | omega)) | (with_reducible (refine Since.trans ?_ (by with_reducible assumption))))), (hR.set j _).congr (fun t ht => ?_), hNx⟩
          simp only [I64, IntRow]
          by_cases hq : t = j
          · subst hq
            rw [if_pos rfl, if_pos (by omega)]
            unfold fnL; rw [List.getD_eq_getElem?_getD, List.getElem?_append_right (by omega), hX, Nat.sub_self]; rfl
          · rw [if_neg hq]
            by_cases ht2 : t < j
            · rw [if_pos ht2, if_pos (by omega)]
              unfold fnL; rw [List.getD_eq_getElem?_getD, List.getD_eq_getElem?_getD, List.getElem?_append_left (by omega)]
            · rw [if_neg ht2, if_neg (by omega)]
        case measure => simp [intOf]; omega
    · obtain rfl : j = m := by omega
      have t1 := hT.out
      have hd0 : G.drop j = [] := List.drop_eq_nil_of_le (by rw [← HM.out]; omega)
      rw [hd0] at t1
      exact absurd t1.symm hE

set_option maxRecDepth 100000 in
set_option maxHeartbeats 8000000 in
theorem si_places_no4 (A : Option Addr) (n c : Nat) (f : Nat → Int) (p : Nat) (B : Option Addr) (m d : Nat) (G : List Int) (w : World) (h : Rd w w.heap.size A n (U8 f)) (hf : ∀ j, j < n → 0 ≤ f j ∧ f j ≤ 255) (hg : Rd w w.heap.size B m (I64 (fnL G))) (hm : m = G.length) (hG : Bytes G) (hpn : p ≤ n) (hn : n ≤ 140737488355328) (hm4 : m ≤ 4096)
    (E : Int) (hE : E ≠ 0) (he : (plGo f n 4 32 G 0 p).e = E) :
    Calls Try.prog 68 #[.slice A n c, .int .i64 p, .slice B m d, .int .i64 4, .int .i64 32] w fun e w' => e = .returned (.tuple #[.slice none 0 0, .int .i64 0, .int .i64 E]) ∧ Since w w' := by
  have b1 : 8 * m ≤ 281474976710656 := by omega
  have b2 : m ≤ maxLen := by simp only [maxLen]; omega
  have hm5 : (m : Int) ≤ 4096 := by omega
  have H0 := Lib.hid (show (plGo f n 4 32 (G.drop 0) 0 p).e = E from he)
  have HG := Lib.hid hG
  have HM := Lib.hid hm
  have HF := Lib.hid hf
  clear he hG hm hf
  obtain ⟨i0, hi0, hz0, hz1, hz2⟩ := info_parts infoIn0
  go_enter Try.func68, Try.ntmps68
  go_wp2_with (at_make; refine wpList_make_tab _ (by rfl) _ _ _ (by rfl) 3 i0 .i64 8 Try.underlying72 hi0 hz0 hz1 hz2 .i64 .i64 m (by rfl) (by rfl) b1 b2 ?_; intro w1 hown1 hS1)
  go_loopw [1, 14, 25] (fun qv pv y wr => ∃ (j : Nat) (X : List Int) (v : Int) (q : Nat), j ≤ m ∧ X.length = j ∧ qv = .int .i64 (q : Int) ∧ pv = .int .i64 v ∧ y = .int .i64 (j : Int) ∧ q ≤ n ∧ (-32768 ≤ v ∧ v ≤ 32767) ∧ Since w wr ∧ Row wr w.heap.size m (I64 (fun t => if t < j then fnL X t else 0)) ∧ Hid ((plGo f n 4 32 (G.drop j) v q).e = E)) (fun _ _ y _ => m - (intOf y).toNat)
  case atStart => exact ⟨0, [], 0, p, by omega, rfl, rfl, rfl, rfl, hpn, by omega, hS1, (row_of_own hown1).congr (fun q hq => by simp only [I64, IntRow]; rw [if_neg (by omega)]), H0⟩
  case round =>
    obtain ⟨j, X, v, q, hj, hX, rfl, rfl, rfl, hq, hv, hSr, hR, hT⟩ := hrel
    by_cases hjm : j < m
    · have hjm' : (j : Int) < (m : Int) := by omega
      have hjG : j < G.length := by rw [← HM.out]; exact hjm
      have hcell := hR.1 j hjm
      have hfr := hR.2.1 j
      have t1 := hT.out
      have hgr := HG.out (fnL G j) (List.mem_of_getElem? (fnL_get hjG))
      have hdrop : G.drop j = fnL G j :: G.drop (j + 1) := by
        rw [List.drop_eq_getElem_cons hjG]
        congr 1
        have := fnL_get hjG
        rw [List.getElem?_eq_getElem hjG] at this
        exact Option.some.inj this
      rw [hdrop] at t1
      have k0 := pl_stop (by rw [t1]; exact hE)
      obtain ⟨s, hs, hb1⟩ := and7_4 hgr.1 hgr.2
      obtain ⟨u, hu, hb2⟩ := and7_32 hgr.1 hgr.2
      have ew : sw7 4 32 (fnL G j) = swB s u := by rw [swB_is, hs, hu]
      have ev : sv7 f 4 32 (fnL G j) q = svB f s u q := by rw [svB_is, hs, hu]
      rw [ew, ev, t1] at k0
      obtain ⟨gb, go, rfl, gl, gc⟩ := hg.on hSr (by omega)
      have gcj := gc j hjm
      have hW : swB s u ≤ 2 := by unfold swB; split <;> (try split) <;> omega
      have K1 : q + swB s u ≤ n → Calls Try.prog 71 #[.slice A n c, .int .i64 q, .bool s, .bool u] wr fun e w' => e = .returned (.tuple #[.int .i64 (svB f s u q), .int .i64 (swB s u), .int .i64 0]) ∧ w' = wr := fun k1 => si_step A n c f q q s u wr (h.on hSr) HF.out rfl k1 hn
      have K0 : n < q + swB s u → Calls Try.prog 71 #[.slice A n c, .int .i64 q, .bool s, .bool u] wr fun e w' => e = .returned (.tuple #[.int .i64 0, .int .i64 (swB s u), .int .i64 3]) ∧ w' = wr := fun k1 => si_step_no A n c f q q s u wr (h.on hSr) HF.out rfl hq k1 hn
      have hFt := si_fits (v + svB f s u q)
      have hZ : q + swB s u ≤ n → -65535 ≤ svB f s u q ∧ svB f s u q ≤ 65535 := fun k1 => by
        unfold swB at k1
        unfold svB
        cases s <;> cases u <;> simp only [if_true, if_false, Bool.false_eq_true] at k1 ⊢
        · have := numAt_range (f := f) (p := q) (k := 2) (fun j hj => HF.out j (by omega))
          simp at this
          unfold sgn; simp only [Int.reducePow]; split <;> omega
        · omega
        · have := HF.out q (by omega); omega
        · have := HF.out q (by omega); omega
      have HN := Lib.hid (show q + swB s u ≤ n ∧ Sh (v + svB f s u q) ∧ E = (plGo f n 4 32 (G.drop (j + 1)) (v + svB f s u q) (q + swB s u)).e → (plGo f n 4 32 (G.drop (j + 1)) (v + svB f s u q) (q + swB s u)).e = E from fun h => h.2.2.symm)
      generalize hrest : (plGo f n 4 32 (G.drop (j + 1)) (v + svB f s u q) (q + swB s u)).e = RE at k0 HN
      have HR := Lib.hid hrest
      clear hrest t1 ew ev hs hu hdrop hT hgr
      have HGJ : ∃ gj, gj = fnL G j := ⟨_, rfl⟩
      obtain ⟨gj, hgj⟩ := HGJ
      rw [← hgj] at hb1 hb2
      have gcj' : wr.cell? ⟨gb, go + j, none⟩ = some (.int .i64 gj) := by rw [gcj, hgj]; rfl
      clear gcj hgj gc h hg
      obtain ⟨z, hz⟩ : ∃ z, z = svB f s u q := ⟨_, rfl⟩
      rw [← hz] at K1 hFt k0 HN hZ HR
      obtain ⟨W, hWz⟩ : ∃ W, W = swB s u := ⟨_, rfl⟩
      rw [← hWz] at K1 K0 HN hW k0 hZ HR
      clear hz hWz
      have hW0 : (W : Int) ≤ 2 := by omega
      have hqn : (q : Int) ≤ 140737488355328 := by omega
      rcases k0 with ⟨k1, k2⟩ | ⟨k1, k2, k3⟩ | ⟨k1, k2, k3⟩
      · have hC := K0 k1
        subst k2
        clear K0 K1 hFt HN hZ HR
        cases s <;> cases u <;> simp only [if_true, if_false, Bool.false_eq_true] at hb1 hb2
        all_goals
          go_wp2_with (go_at_call 71; (with_reducible refine hC.mono ?_); rintro e w2 ⟨rfl, rfl⟩)
          go_ret3
          exact ⟨by first | rfl | simp, hSr⟩
      · have hC := K1 k1
        have hz2 := hZ k1
        rw [decide_eq_false k2] at hFt
        subst k3
        clear K0 K1 HN hZ HR
        cases s <;> cases u <;> simp only [if_true, if_false, Bool.false_eq_true] at hb1 hb2
        all_goals
          go_wp2_with (first | (go_at_call 71; (with_reducible refine hC.mono ?_); rintro e w2 ⟨rfl, rfl⟩) | (go_at_call 72; (with_reducible refine (hFt _).mono ?_); rintro e w2 ⟨rfl, rfl⟩))
          go_ret3
          exact ⟨by first | rfl | simp, hSr⟩
      have hC := K1 k1
      rw [decide_eq_true k2] at hFt
      have k2' : -32768 ≤ v + z ∧ v + z ≤ 32767 := k2
      have hNx := Lib.hid (HR.out.trans k3.symm)
      clear K0 K1 HN hZ HR k3 k2
      cases s <;> cases u <;> simp only [if_true, if_false, Bool.false_eq_true] at hb1 hb2
      all_goals
        go_wp2_with (first | (go_at_call 71; (with_reducible refine hC.mono ?_); rintro e w2 ⟨rfl, rfl⟩) | (go_at_call 72; (with_reducible refine (hFt _).mono ?_); rintro e w2 ⟨rfl, rfl⟩))
        go_roundw
        case rel =>
          refine ⟨j + 1, X ++ [v + z], v + z, q + W, by omega, by rw [List.length_append, hX]; rfl, by first | rfl | go_num | simp, by first | rfl | go_num | simp, by first | rfl | go_num | simp, by omega, k2', by (repeat (first | with_reducible (exact Since.refl _) | with_reducible assumption | with_reducible (refine Since.drew ?_) | with_reducible (refine Since.drewN ?_ _) | with_reducible (refine Since.alloc ?_ _) | (with_reducible (refine Since.setCell ?_ ?_ _); rotate_left; focus (first | (simp; done) | (simp; omega) | omega)) | (with_reducible (refine Since.trans ?_ (by with_reducible assumption))))), (hR.set j _).congr (fun t ht => ?_), hNx⟩
          simp only [I64, IntRow]
          by_cases hq : t = j
          · subst hq
            rw [if_pos rfl, if_pos (by omega)]
            unfold fnL; rw [List.getD_eq_getElem?_getD, List.getElem?_append_right (by omega), hX, Nat.sub_self]; rfl
          · rw [if_neg hq]
            by_cases ht2 : t < j
            · rw [if_pos ht2, if_pos (by omega)]
              unfold fnL; rw [List.getD_eq_getElem?_getD, List.getD_eq_getElem?_getD, List.getElem?_append_left (by omega)]
            · rw [if_neg ht2, if_neg (by omega)]
        case measure => simp [intOf]; omega
    · obtain rfl : j = m := by omega
      have t1 := hT.out
      have hd0 : G.drop j = [] := List.drop_eq_nil_of_le (by rw [← HM.out]; omega)
      rw [hd0] at t1
      exact absurd t1.symm hE

end Go.Proofs.Ytcjjcjpkmjbfkaa
