/-
  Layer 7: readPlaces, walked, where all numbers are read.
-/
import Derived.Test.YtpplnapfpoloiaaSiH
import Derived.Test.YtpplnapfpoloiaaSiC
import Derived.Test.YtpplnapfpoloiaaKitI
namespace Go.Proofs.Ytpplnapfpoloiaa
open Go.RowKit Go.ChangeShapes Go.WideShapes Go.Deep
set_option linter.unusedVariables false
set_option linter.unusedSimpArgs false

def andB (x : Int) (b : Int) (s : Bool) : Prop := decide (Has8 x b) = s ∧ bits .and .i64 x b = if s then b else 0

theorem and7_2 {x : Int} (h0 : 0 ≤ x) (h1 : x ≤ 255) : ∃ s, andB x 2 s := by
  have h := and_pow x 1 h0 (by omega) (by omega)
  simp only [Int.reducePow] at h
  refine ⟨decide (Has8 x 2), rfl, ?_⟩
  rw [h]; unfold Has8
  by_cases e : x / 2 % 2 = 1 <;> simp [e]

theorem and7_4 {x : Int} (h0 : 0 ≤ x) (h1 : x ≤ 255) : ∃ s, andB x 4 s := by
  have h := and_pow x 2 h0 (by omega) (by omega)
  simp only [Int.reducePow] at h
  refine ⟨decide (Has8 x 4), rfl, ?_⟩
  rw [h]; unfold Has8
  by_cases e : x / 4 % 2 = 1 <;> simp [e]

theorem and7_16 {x : Int} (h0 : 0 ≤ x) (h1 : x ≤ 255) : ∃ s, andB x 16 s := by
  have h := and_pow x 4 h0 (by omega) (by omega)
  simp only [Int.reducePow] at h
  refine ⟨decide (Has8 x 16), rfl, ?_⟩
  rw [h]; unfold Has8
  by_cases e : x / 16 % 2 = 1 <;> simp [e]

theorem and7_32 {x : Int} (h0 : 0 ≤ x) (h1 : x ≤ 255) : ∃ s, andB x 32 s := by
  have h := and_pow x 5 h0 (by omega) (by omega)
  simp only [Int.reducePow] at h
  refine ⟨decide (Has8 x 32), rfl, ?_⟩
  rw [h]; unfold Has8
  by_cases e : x / 32 % 2 = 1 <;> simp [e]


set_option maxRecDepth 100000 in
set_option maxHeartbeats 8000000 in
theorem si_places2 (A : Option Addr) (n c : Nat) (f : Nat → Int) (p : Nat) (B : Option Addr) (m d : Nat) (G : List Int) (w : World) (h : Rd w w.heap.size A n (U8 f)) (hf : ∀ j, j < n → 0 ≤ f j ∧ f j ≤ 255) (hg : Rd w w.heap.size B m (I64 (fnL G))) (hm : m = G.length) (hG : Bytes G) (hpn : p ≤ n) (hn : n ≤ 140737488355328) (hm4 : m ≤ 4096)
    (he : (plGo f n 2 16 G 0 p).e = 0) :
    Calls Try.prog 100 #[.slice A n c, .int .i64 p, .slice B m d, .int .i64 2, .int .i64 16] w fun e w' => ∃ b, e = .returned (.tuple #[.slice (some ⟨b, 0, none⟩) m m, .int .i64 (plGo f n 2 16 G 0 p).p, .int .i64 0]) ∧ w.heap.size ≤ b ∧ Rd w' w'.heap.size (some ⟨b, 0, none⟩) m (I64 (fnL (plGo f n 2 16 G 0 p).L)) ∧ Since w w' := by
  have b1 : 8 * m ≤ 281474976710656 := by omega
  have b2 : m ≤ maxLen := by simp only [maxLen]; omega
  have hm5 : (m : Int) ≤ 4096 := by omega
  obtain ⟨T, hT⟩ : ∃ T, T = plGo f n 2 16 G 0 p := ⟨_, rfl⟩
  have H0 := Lib.hid (show (plGo f n 2 16 (G.drop 0) 0 p).e = 0 ∧ T.L = [] ++ (plGo f n 2 16 (G.drop 0) 0 p).L ∧ T.p = (plGo f n 2 16 (G.drop 0) 0 p).p from ⟨he, by rw [hT]; rfl, by rw [hT]; rfl⟩)
  rw [← hT]
  have HG := Lib.hid hG
  have HM := Lib.hid hm
  have HF := Lib.hid hf
  clear he hT hG hm hf
  obtain ⟨i0, hi0, hz0, hz1, hz2⟩ := info_parts infoIn0
  go_enter Try.func100, Try.ntmps100
  go_wp2_with (at_make; refine wpList_make_tab _ (by rfl) _ _ _ (by rfl) 3 i0 .i64 8 Try.underlying103 hi0 hz0 hz1 hz2 .i64 .i64 m (by rfl) (by rfl) b1 b2 ?_; intro w1 hown1 hS1)
  go_loopw [1, 14, 25] (fun qv pv y wr => ∃ (j : Nat) (X : List Int) (v : Int) (q : Nat), j ≤ m ∧ X.length = j ∧ qv = .int .i64 (q : Int) ∧ pv = .int .i64 v ∧ y = .int .i64 (j : Int) ∧ q ≤ n ∧ (-32768 ≤ v ∧ v ≤ 32767) ∧ Since w wr ∧ Row wr w.heap.size m (I64 (fun t => if t < j then fnL X t else 0)) ∧ Hid ((plGo f n 2 16 (G.drop j) v q).e = 0 ∧ T.L = X ++ (plGo f n 2 16 (G.drop j) v q).L ∧ T.p = (plGo f n 2 16 (G.drop j) v q).p)) (fun _ _ y _ => m - (intOf y).toNat)
  case atStart => exact ⟨0, [], 0, p, by omega, rfl, rfl, rfl, rfl, hpn, by omega, hS1, (row_of_own hown1).congr (fun q hq => by simp only [I64, IntRow]; rw [if_neg (by omega)]), H0⟩
  case round =>
    obtain ⟨j, X, v, q, hj, hX, rfl, rfl, rfl, hq, hv, hSr, hR, hT⟩ := hrel
    by_cases hjm : j < m
    · have hjm' : (j : Int) < (m : Int) := by omega
      have hjG : j < G.length := by rw [← HM.out]; exact hjm
      have hcell := hR.1 j hjm
      have hfr := hR.2.1 j
      obtain ⟨t1, t2, t3⟩ := hT.out
      have hgr := HG.out (fnL G j) (List.mem_of_getElem? (fnL_get hjG))
      have hdrop : G.drop j = fnL G j :: G.drop (j + 1) := by
        rw [List.drop_eq_getElem_cons hjG]
        congr 1
        have := fnL_get hjG
        rw [List.getElem?_eq_getElem hjG] at this
        exact Option.some.inj this
      rw [hdrop] at t1 t2 t3
      obtain ⟨k1, k2, k3, k4, k5⟩ := pl_step t1
      obtain ⟨s, hs, hb1⟩ := and7_2 hgr.1 hgr.2
      obtain ⟨u, hu, hb2⟩ := and7_16 hgr.1 hgr.2
      have ew : sw7 2 16 (fnL G j) = swB s u := by rw [swB_is, hs, hu]
      have ev : sv7 f 2 16 (fnL G j) q = svB f s u q := by rw [svB_is, hs, hu]
      rw [ew] at k1 k3 k4 k5
      rw [ev] at k2 k3 k4 k5
      rw [k4] at t2
      rw [k5] at t3
      have hC := si_step A n c f q q s u wr (h.on hSr) HF.out rfl k1 hn
      have hFt := si_fits (v + svB f s u q)
      rw [decide_eq_true k2] at hFt
      obtain ⟨gb, go, rfl, gl, gc⟩ := hg.on hSr (by omega)
      have gcj := gc j hjm
      have hW : swB s u ≤ 2 := by unfold swB; split <;> (try split) <;> omega
      have k2' : -32768 ≤ v + svB f s u q ∧ v + svB f s u q ≤ 32767 := k2
      have hNx := Lib.hid (show (plGo f n 2 16 (G.drop (j + 1)) (v + svB f s u q) (q + swB s u)).e = 0 ∧ T.L = (X ++ [v + svB f s u q]) ++ (plGo f n 2 16 (G.drop (j + 1)) (v + svB f s u q) (q + swB s u)).L ∧ T.p = (plGo f n 2 16 (G.drop (j + 1)) (v + svB f s u q) (q + swB s u)).p from ⟨k3, by rw [t2, List.append_assoc]; rfl, t3⟩)
      clear t1 t2 t3 k3 k4 k5 k2 ew ev hs hu hdrop hT hgr
      have HGJ : ∃ gj, gj = fnL G j := ⟨_, rfl⟩
      obtain ⟨gj, hgj⟩ := HGJ
      rw [← hgj] at hb1 hb2
      have gcj' : wr.cell? ⟨gb, go + j, none⟩ = some (.int .i64 gj) := by rw [gcj, hgj]; rfl
      clear gcj hgj gc h hg
      obtain ⟨z, hz⟩ : ∃ z, z = svB f s u q := ⟨_, rfl⟩
      rw [← hz] at hC hFt hNx k2'
      obtain ⟨W, hWz⟩ : ∃ W, W = swB s u := ⟨_, rfl⟩
      rw [← hWz] at hC hNx hW k1
      clear hz hWz
      have hW0 : (W : Int) ≤ 2 := by omega
      have hqn : (q : Int) ≤ 140737488355328 := by omega
      cases s <;> cases u <;> simp only [if_true, if_false, Bool.false_eq_true] at hb1 hb2
      all_goals
        go_wp2_with (first | (go_at_call 114; (with_reducible refine hC.mono ?_); rintro e w2 ⟨rfl, rfl⟩) | (go_at_call 103; (with_reducible refine (hFt _).mono ?_); rintro e w2 ⟨rfl, rfl⟩))
        go_roundw
        case rel =>
          refine ⟨j + 1, X ++ [v + z], v + z, q + W, by omega, by rw [List.length_append, hX]; rfl, by first | rfl | go_num | simp, by first | rfl | go_num | simp, by first | rfl | go_num | simp, by omega, k2', by (repeat (first | with_reducible (exact Since.refl _) | with_reducible assumption | with_reducible (refine Since.drew ?_) | with_reducible (refine Since.drewN ?_ _) | with_reducible (refine Since.alloc ?_ _) | (with_reducible (refine Since.setCell ?_ ?_ _); rotate_left; focus (first | (simp; done) | (simp; omega) | omega)) | (with_reducible (refine Since.trans ?_ (by with_reducible assumption))))), (hR.set j _).congr (fun t ht => ?_), hNx⟩
          simp only [I64, IntRow]
          by_cases hq : t = j
          · subst hq
            rw [if_pos rfl, if_pos (by omega)]
            unfold fnL; rw [List.getD_eq_getElem?_getD, List.getElem?_append_right (by omega), hX, Nat.sub_self]; rfl
          · rw [if_neg hq]
            by_cases ht2 : t < j
            · rw [if_pos ht2, if_pos (by omega)]
              unfold fnL; rw [List.getD_eq_getElem?_getD, List.getD_eq_getElem?_getD, List.getElem?_append_left (by omega)]
            · rw [if_neg ht2, if_neg (by omega)]
        case measure => simp [intOf]; omega
    · obtain rfl : j = m := by omega
      obtain ⟨t1, t2, t3⟩ := hT.out
      have hd0 : G.drop j = [] := List.drop_eq_nil_of_le (by rw [← HM.out]; omega)
      rw [hd0] at t2 t3
      have hL : T.L = X := by rw [t2]; exact List.append_nil X
      have hP : T.p = q := t3
      have hR' := hR.congr (g := I64 (fnL T.L)) (fun t ht => by simp only [I64, IntRow]; rw [if_pos ht, hL])
      have HP := Lib.hid hP
      clear hR hg h t1 t2 t3 hP hd0 hL
      go_wp2_with fail
      go_ret3
      exact ⟨_, by rw [HP.out]; first | rfl | simp, by omega, Rd.of_row hR', hSr⟩

set_option maxRecDepth 100000 in
set_option maxHeartbeats 8000000 in
theorem si_places4 (A : Option Addr) (n c : Nat) (f : Nat → Int) (p : Nat) (B : Option Addr) (m d : Nat) (G : List Int) (w : World) (h : Rd w w.heap.size A n (U8 f)) (hf : ∀ j, j < n → 0 ≤ f j ∧ f j ≤ 255) (hg : Rd w w.heap.size B m (I64 (fnL G))) (hm : m = G.length) (hG : Bytes G) (hpn : p ≤ n) (hn : n ≤ 140737488355328) (hm4 : m ≤ 4096)
    (he : (plGo f n 4 32 G 0 p).e = 0) :
    Calls Try.prog 100 #[.slice A n c, .int .i64 p, .slice B m d, .int .i64 4, .int .i64 32] w fun e w' => ∃ b, e = .returned (.tuple #[.slice (some ⟨b, 0, none⟩) m m, .int .i64 (plGo f n 4 32 G 0 p).p, .int .i64 0]) ∧ w.heap.size ≤ b ∧ Rd w' w'.heap.size (some ⟨b, 0, none⟩) m (I64 (fnL (plGo f n 4 32 G 0 p).L)) ∧ Since w w' := by
  have b1 : 8 * m ≤ 281474976710656 := by omega
  have b2 : m ≤ maxLen := by simp only [maxLen]; omega
  have hm5 : (m : Int) ≤ 4096 := by omega
  obtain ⟨T, hT⟩ : ∃ T, T = plGo f n 4 32 G 0 p := ⟨_, rfl⟩
  have H0 := Lib.hid (show (plGo f n 4 32 (G.drop 0) 0 p).e = 0 ∧ T.L = [] ++ (plGo f n 4 32 (G.drop 0) 0 p).L ∧ T.p = (plGo f n 4 32 (G.drop 0) 0 p).p from ⟨he, by rw [hT]; rfl, by rw [hT]; rfl⟩)
  rw [← hT]
  have HG := Lib.hid hG
  have HM := Lib.hid hm
  have HF := Lib.hid hf
  clear he hT hG hm hf
  obtain ⟨i0, hi0, hz0, hz1, hz2⟩ := info_parts infoIn0
  go_enter Try.func100, Try.ntmps100
  go_wp2_with (at_make; refine wpList_make_tab _ (by rfl) _ _ _ (by rfl) 3 i0 .i64 8 Try.underlying103 hi0 hz0 hz1 hz2 .i64 .i64 m (by rfl) (by rfl) b1 b2 ?_; intro w1 hown1 hS1)
  go_loopw [1, 14, 25] (fun qv pv y wr => ∃ (j : Nat) (X : List Int) (v : Int) (q : Nat), j ≤ m ∧ X.length = j ∧ qv = .int .i64 (q : Int) ∧ pv = .int .i64 v ∧ y = .int .i64 (j : Int) ∧ q ≤ n ∧ (-32768 ≤ v ∧ v ≤ 32767) ∧ Since w wr ∧ Row wr w.heap.size m (I64 (fun t => if t < j then fnL X t else 0)) ∧ Hid ((plGo f n 4 32 (G.drop j) v q).e = 0 ∧ T.L = X ++ (plGo f n 4 32 (G.drop j) v q).L ∧ T.p = (plGo f n 4 32 (G.drop j) v q).p)) (fun _ _ y _ => m - (intOf y).toNat)
  case atStart => exact ⟨0, [], 0, p, by omega, rfl, rfl, rfl, rfl, hpn, by omega, hS1, (row_of_own hown1).congr (fun q hq => by simp only [I64, IntRow]; rw [if_neg (by omega)]), H0⟩
  case round =>
    obtain ⟨j, X, v, q, hj, hX, rfl, rfl, rfl, hq, hv, hSr, hR, hT⟩ := hrel
    by_cases hjm : j < m
    · have hjm' : (j : Int) < (m : Int) := by omega
      have hjG : j < G.length := by rw [← HM.out]; exact hjm
      have hcell := hR.1 j hjm
      have hfr := hR.2.1 j
      obtain ⟨t1, t2, t3⟩ := hT.out
      have hgr := HG.out (fnL G j) (List.mem_of_getElem? (fnL_get hjG))
      have hdrop : G.drop j = fnL G j :: G.drop (j + 1) := by
        rw [List.drop_eq_getElem_cons hjG]
        congr 1
        have := fnL_get hjG
        rw [List.getElem?_eq_getElem hjG] at this
        exact Option.some.inj this
      rw [hdrop] at t1 t2 t3
      obtain ⟨k1, k2, k3, k4, k5⟩ := pl_step t1
      obtain ⟨s, hs, hb1⟩ := and7_4 hgr.1 hgr.2
      obtain ⟨u, hu, hb2⟩ := and7_32 hgr.1 hgr.2
      have ew : sw7 4 32 (fnL G j) = swB s u := by rw [swB_is, hs, hu]
      have ev : sv7 f 4 32 (fnL G j) q = svB f s u q := by rw [svB_is, hs, hu]
      rw [ew] at k1 k3 k4 k5
      rw [ev] at k2 k3 k4 k5
      rw [k4] at t2
      rw [k5] at t3
      have hC := si_step A n c f q q s u wr (h.on hSr) HF.out rfl k1 hn
      have hFt := si_fits (v + svB f s u q)
      rw [decide_eq_true k2] at hFt
      obtain ⟨gb, go, rfl, gl, gc⟩ := hg.on hSr (by omega)
      have gcj := gc j hjm
      have hW : swB s u ≤ 2 := by unfold swB; split <;> (try split) <;> omega
      have k2' : -32768 ≤ v + svB f s u q ∧ v + svB f s u q ≤ 32767 := k2
      have hNx := Lib.hid (show (plGo f n 4 32 (G.drop (j + 1)) (v + svB f s u q) (q + swB s u)).e = 0 ∧ T.L = (X ++ [v + svB f s u q]) ++ (plGo f n 4 32 (G.drop (j + 1)) (v + svB f s u q) (q + swB s u)).L ∧ T.p = (plGo f n 4 32 (G.drop (j + 1)) (v + svB f s u q) (q + swB s u)).p from ⟨k3, by rw [t2, List.append_assoc]; rfl, t3⟩)
      clear t1 t2 t3 k3 k4 k5 k2 ew ev hs hu hdrop hT hgr
      have HGJ : ∃ gj, gj = fnL G j := ⟨_, rfl⟩
      obtain ⟨gj, hgj⟩ := HGJ
      rw [← hgj] at hb1 hb2
      have gcj' : wr.cell? ⟨gb, go + j, none⟩ = some (.int .i64 gj) := by rw [gcj, hgj]; rfl
      clear gcj hgj gc h hg
      obtain ⟨z, hz⟩ : ∃ z, z = svB f s u q := ⟨_, rfl⟩
      rw [← hz] at hC hFt hNx k2'
      obtain ⟨W, hWz⟩ : ∃ W, W = swB s u := ⟨_, rfl⟩
      rw [← hWz] at hC hNx hW k1
      clear hz hWz
      have hW0 : (W : Int) ≤ 2 := by omega
      have hqn : (q : Int) ≤ 140737488355328 := by omega
      cases s <;> cases u <;> simp only [if_true, if_false, Bool.false_eq_true] at hb1 hb2
      all_goals
        go_wp2_with (first | (go_at_call 114; (with_reducible refine hC.mono ?_); rintro e w2 ⟨rfl, rfl⟩) | (go_at_call 103; (with_reducible refine (hFt _).mono ?_); rintro e w2 ⟨rfl, rfl⟩))
        go_roundw
        case rel =>
          refine ⟨j + 1, X ++ [v + z], v + z, q + W, by omega, by rw [List.length_append, hX]; rfl, by first | rfl | go_num | simp, by first | rfl | go_num | simp, by first | rfl | go_num | simp, by omega, k2', by (repeat (first | with_reducible (exact Since.refl _) | with_reducible assumption | with_reducible (refine Since.drew ?_) | with_reducible (refine Since.drewN ?_ _) | with_reducible (refine Since.alloc ?_ _) | (with_reducible (refine Since.setCell ?_ ?_ _); rotate_left; focus (first | (simp; done) | (simp; omega) | omega)) | (with_reducible (refine Since.trans ?_ (by with_reducible assumption))))), (hR.set j _).congr (fun t ht => ?_), hNx⟩
          simp only [I64, IntRow]
          by_cases hq : t = j
          · subst hq
            rw [if_pos rfl, if_pos (by omega)]
            unfold fnL; rw [List.getD_eq_getElem?_getD, List.getElem?_append_right (by omega), hX, Nat.sub_self]; rfl
          · rw [if_neg hq]
            by_cases ht2 : t < j
            · rw [if_pos ht2, if_pos (by omega)]
              unfold fnL; rw [List.getD_eq_getElem?_getD, List.getD_eq_getElem?_getD, List.getElem?_append_left (by omega)]
            · rw [if_neg ht2, if_neg (by omega)]
        case measure => simp [intOf]; omega
    · obtain rfl : j = m := by omega
      obtain ⟨t1, t2, t3⟩ := hT.out
      have hd0 : G.drop j = [] := List.drop_eq_nil_of_le (by rw [← HM.out]; omega)
      rw [hd0] at t2 t3
      have hL : T.L = X := by rw [t2]; exact List.append_nil X
      have hP : T.p = q := t3
      have hR' := hR.congr (g := I64 (fnL T.L)) (fun t ht => by simp only [I64, IntRow]; rw [if_pos ht, hL])
      have HP := Lib.hid hP
      clear hR hg h t1 t2 t3 hP hd0 hL
      go_wp2_with fail
      go_ret3
      exact ⟨_, by rw [HP.out]; first | rfl | simp, by omega, Rd.of_row hR', hSr⟩

end Go.Proofs.Ytpplnapfpoloiaa
