/-
  Layer 7: the box of an outline's knots, exactly: the program's and the reference's, walked.
-/
import Derived.Test.YtpplnapfpoloiaaSiO
namespace Go.Proofs.Ytpplnapfpoloiaa
open Go.RowKit Go.ChangeShapes Go.WideShapes Go.Deep
set_option linter.unusedVariables false
set_option linter.unusedSimpArgs false

theorem Two.drew {w : World} {b : Nat} {u v : Value} (h : Two w b u v) : Two w.drew b u v := h
theorem Two.drewN {w : World} {b : Nat} {u v : Value} (h : Two w b u v) (k : Nat) : Two (w.drewN k) b u v := h
theorem Two.alloc {w : World} {b : Nat} {u v : Value} (h : Two w b u v) (o : Obj) : Two (w.alloc o) b u v := h.since ((Since.refl w).alloc o)
theorem Two.far {w : World} {b b' : Nat} {u v : Value} (h : Two w b u v) (hb : b' ≠ b) (o : Nat) (x : Value) : Two (w.setCell ⟨b', o, none⟩ x) b u v :=
  ⟨by rw [cell_set, if_neg (fun e => hb e.1)]; exact h.1, by rw [cell_set, if_neg (fun e => hb e.1)]; exact h.2.1, (World.frozen?_setCell _ _ _ _).trans h.2.2.1, (World.frozen?_setCell _ _ _ _).trans h.2.2.2.1, by simpa [World.setCell] using h.2.2.2.2⟩
theorem Two.put {w : World} {b : Nat} {u v : Value} (h : Two w b u v) (x y : Value) : Two ((w.setCell ⟨b, 0, none⟩ x).setCell ⟨b, 1, none⟩ y) b x y := by
  obtain ⟨h1, h2, h3, h4, h5⟩ := h
  refine ⟨?_, ?_, (World.frozen?_setCell _ _ _ _).trans ((World.frozen?_setCell _ _ _ _).trans h3), (World.frozen?_setCell _ _ _ _).trans ((World.frozen?_setCell _ _ _ _).trans h4), by simpa [World.setCell] using h5⟩
  · rw [cell_set, if_neg (by omega), cell_set, if_pos ⟨rfl, rfl⟩, h1]; rfl
  · rw [cell_set, if_pos ⟨rfl, rfl⟩, cell_set, if_neg (by omega), h2]; rfl
def lo7 (a b : Int) : Int := if b < a then b else a
def hi7 (a b : Int) : Int := if a < b then b else a
theorem lo7_min (a b : Int) : lo7 a b = min a b := by unfold lo7; split <;> omega
theorem hi7_max (a b : Int) : hi7 a b = max a b := by unfold hi7; split <;> omega
/-- The box about the knots so far. -/
def BoxEx (S : List Kt) (fst : Bool) (ax ay bx bz : Int) : Prop := (fst = true ↔ S = []) ∧ ax = mn7 (S.map Kt.x) ∧ ay = mn7 (S.map Kt.y) ∧ bx = mx7 (S.map Kt.x) ∧ bz = mx7 (S.map Kt.y)
theorem boxEx_nil : BoxEx [] true 0 0 0 0 := ⟨⟨fun _ => rfl, fun _ => rfl⟩, rfl, rfl, rfl, rfl⟩
theorem BoxEx.one {S : List Kt} {ax ay bx bz : Int} (h : BoxEx S true ax ay bx bz) (k : Kt) : BoxEx (S ++ [k]) false (lo7 k.x k.x) (lo7 k.y k.y) (hi7 k.x k.x) (hi7 k.y k.y) := by
  have e := h.1.1 rfl
  subst e
  refine ⟨⟨fun h => (by cases h), fun h => (by simp at h)⟩, ?_, ?_, ?_, ?_⟩ <;> simp [mn7, mx7, lo7, hi7]
theorem BoxEx.more {S : List Kt} {ax ay bx bz : Int} (h : BoxEx S false ax ay bx bz) (k : Kt) : BoxEx (S ++ [k]) false (lo7 ax k.x) (lo7 ay k.y) (hi7 bx k.x) (hi7 bz k.y) := by
  obtain ⟨h0, rfl, rfl, rfl, rfl⟩ := h
  have hs : S ≠ [] := fun e => by have := h0.2 e; cases this
  have hm : ∀ f : Kt → Int, S.map f ≠ [] := fun f e => hs (List.map_eq_nil_iff.1 e)
  refine ⟨⟨fun h => (by cases h), fun h => (by simp at h)⟩, ?_, ?_, ?_, ?_⟩
  · rw [List.map_append, List.map_cons, List.map_nil, mn7_snoc, if_neg (hm _), lo7_min]
  · rw [List.map_append, List.map_cons, List.map_nil, mn7_snoc, if_neg (hm _), lo7_min]
  · rw [List.map_append, List.map_cons, List.map_nil, mx7_snoc, if_neg (hm _), hi7_max]
  · rw [List.map_append, List.map_cons, List.map_nil, mx7_snoc, if_neg (hm _), hi7_max]
/-- What 'Box' leaves. -/
def BoxPost7 (LL : List (List Kt)) (w : World) (e : Ending) (w' : World) : Prop := e = .returned (.tuple #[.agg #[.int .i64 (mn7 (LL.flatten.map Kt.x)), .int .i64 (mn7 (LL.flatten.map Kt.y))], .agg #[.int .i64 (mx7 (LL.flatten.map Kt.x)), .int .i64 (mx7 (LL.flatten.map Kt.y))]]) ∧ Since w w'
theorem boxpost {LL : List (List Kt)} {fst : Bool} {ax ay bx bz : Int} {w w' : World} (h : BoxEx LL.flatten fst ax ay bx bz) (hS : Since w w') : BoxPost7 LL w (.returned (.tuple #[.agg #[.int .i64 ax, .int .i64 ay], .agg #[.int .i64 bx, .int .i64 bz]])) w' := by
  obtain ⟨_, rfl, rfl, rfl, rfl⟩ := h
  exact ⟨rfl, hS⟩
set_option maxRecDepth 100000 in
set_option maxHeartbeats 16000000 in
theorem si_box (A : Option Addr) (c : Nat) (LL : List (List Kt)) (w : World) (h : RdOL w w.heap.size A LL) (hn : LL.length ≤ 1000000) (hm : ∀ L, L ∈ LL → L.length ≤ 1000000) :
    Calls Try.prog 40 #[.slice A LL.length c] w (BoxPost7 LL w) := by
  have hmin : ∀ (A B : Int) (w : World), (Builtin.min_ #[3, 3] 3 #[.int .i64 A, .int .i64 B]).run Try.prog w = .ok (.int .i64 (lo7 A B)) w := fun _ _ _ => rfl
  have hmax : ∀ (A B : Int) (w : World), (Builtin.max_ #[3, 3] 3 #[.int .i64 A, .int .i64 B]).run Try.prog w = .ok (.int .i64 (hi7 A B)) w := fun _ _ _ => rfl
  obtain ⟨N, hN⟩ : ∃ N, N = LL.length := ⟨_, rfl⟩
  rw [← hN] at hn ⊢
  have HN := Lib.hid hN
  have HM := Lib.hid hm
  have HO := Lib.hid h
  have hNI : (N : Int) ≤ 1000000 := by omega
  clear hN hm h
  go_enter Try.func40, Try.ntmps40
  go_wp2_with fail
  refine wp_named fun w0 hw0 => ?_
  have hC0 : Two w0 w.heap.size (.int .i64 0) (.int .i64 0) := by subst hw0; exact (two_new _ w.heap.size rfl _ _ _).alloc _
  have hD0 : Two w0 (w.heap.size + 1) (.int .i64 0) (.int .i64 0) := by subst hw0; exact two_new _ (w.heap.size + 1) (by simp) _ _ _
  have hS0 : Since w w0 := by subst hw0; (repeat (first | with_reducible (exact Since.refl _) | with_reducible assumption | with_reducible (refine Since.drew ?_) | with_reducible (refine Since.drewN ?_ _) | with_reducible (refine Since.alloc ?_ _) | (with_reducible (refine Since.setCell ?_ ?_ _); rotate_left; focus (first | (simp; done) | (simp; omega) | omega)) | (with_reducible (refine Since.trans ?_ (by with_reducible assumption)))))
  clear hw0
  obtain ⟨b2, hb2⟩ : ∃ b2, b2 = w.heap.size := ⟨_, rfl⟩
  obtain ⟨b3, hb3⟩ : ∃ b3, b3 = w.heap.size + 1 := ⟨_, rfl⟩
  rw [← hb3] at hD0 ⊢
  rw [← hb2] at hC0 ⊢
  have k4 : w.heap.size ≤ b2 := by omega
  have k5 : w.heap.size ≤ b3 := by omega
  have n45 : b3 ≠ b2 := by omega
  have n54 : b2 ≠ b3 := by omega
  clear hb2 hb3
  go_loopw [4, 11] (fun v y wr => ∃ (j : Nat) (fst : Bool) (ax ay bx bz : Int), j ≤ N ∧ y = .int .i64 (j : Int) ∧ v = .bool fst ∧ Two wr b2 (.int .i64 ax) (.int .i64 ay) ∧ Two wr b3 (.int .i64 bx) (.int .i64 bz) ∧ Since w wr ∧ BoxEx (LL.take j).flatten fst ax ay bx bz) (fun _ y _ => N - (intOf y).toNat)
  case atStart => exact ⟨0, true, 0, 0, 0, 0, by omega, rfl, rfl, hC0, hD0, hS0, boxEx_nil⟩
  case round =>
    obtain ⟨j, fst, ax, ay, bx, bz, hj, rfl, rfl, hC, hD, hS, hX⟩ := hrel
    clear hC0 hD0 hS0
    by_cases hjn : j < N
    · have hjn' : (j : Int) < N := by omega
      have hjL : j < LL.length := by rw [← HN.out]; exact hjn
      have hL : LL[j]? = some LL[j] := List.getElem?_eq_getElem hjL
      have hml := HM.out _ (List.mem_of_getElem? hL)
      have htk : (LL.take (j + 1)).flatten = (LL.take j).flatten ++ LL[j] := by rw [List.take_succ_eq_append_getElem hjL, List.flatten_append]; simp
      generalize LL[j] = L at *
      obtain ⟨b, o, A', c', rfl, hb, hcell, hK⟩ := HO.out.row hL
      have c1 := (hS.1 _ _ hb).trans hcell
      obtain ⟨n, hnl⟩ : ∃ n, n = L.length := ⟨_, rfl⟩
      rw [← hnl] at hml c1
      have HNL := Lib.hid hnl
      have HK := Lib.hid hK
      have HTK := Lib.hid htk
      clear hL hcell hjL hnl hK htk
      go_wp2_with fail
      go_loopw [4, 17] (fun v y wi => ∃ (k : Nat) (fst : Bool) (ax ay bx bz : Int), k ≤ n ∧ y = .int .i64 (k : Int) ∧ v = .bool fst ∧ Two wi b2 (.int .i64 ax) (.int .i64 ay) ∧ Two wi b3 (.int .i64 bx) (.int .i64 bz) ∧ Since w wi ∧ BoxEx ((LL.take j).flatten ++ L.take k) fst ax ay bx bz) (fun _ y _ => n - (intOf y).toNat)
      case atStart => exact ⟨0, fst, ax, ay, bx, bz, by omega, rfl, rfl, hC, hD, hS, by simpa using hX⟩
      case round =>
        obtain ⟨k, fs, px, py, qx, qy, hk, rfl, rfl, hC', hD', hS', hX'⟩ := hrel
        clear hC hD hX c1 hS
        by_cases hkn : k < n
        · have hkn' : (k : Int) < n := by omega
          have hkL : k < L.length := by rw [← HNL.out]; exact hkn
          have hx : L[k]? = some L[k] := List.getElem?_eq_getElem hkL
          have htk2 : (LL.take j).flatten ++ L.take (k + 1) = (LL.take j).flatten ++ L.take k ++ [L[k]] := by rw [List.take_succ_eq_append_getElem hkL, List.append_assoc]
          generalize L[k] = x at *
          obtain ⟨bk, ok, rfl, hbk, hck⟩ := HK.out (by omega)
          have d1 := (hS'.1 _ _ hbk).trans (hck k x hx 0 (by omega))
          have d2 := (hS'.1 _ _ hbk).trans (hck k x hx 1 (by omega))
          have d3 := (hS'.1 _ _ hbk).trans (hck k x hx 2 (by omega))
          simp only [knL, List.getD_cons_succ, List.getD_cons_zero, Nat.add_zero] at d1 d2 d3
          have u1 : IntKind.i64.wrap ((k : Int) + 1) = (k : Int) + 1 := IntWalk.i64_in _ (by omega)
          obtain ⟨r1, r2, rf0, rf1, r3⟩ := id hC'
          obtain ⟨s1, s2, sf0, sf1, s3⟩ := id hD'
          have HTK2 := Lib.hid htk2
          have HC' := Lib.hid hC'
          have HD' := Lib.hid hD'
          have HS' := Lib.hid hS'
          clear hx hck hkL htk2 hC' hD' hS'
          cases fs
          · have hX2 := hX'.more x
            have HX2 := Lib.hid hX2
            clear hX2 hX'
            go_wp2_with fail
            go_roundw
            case rel => exact ⟨k + 1, false, _, _, _, _, by omega, by go_num, rfl, 
              (((HC'.out.put _ _).far n45 _ _).far n45 _ _).since ((Since.refl _).alloc _), (((HD'.out.far n54 _ _).far n54 _ _).put _ _).since ((Since.refl _).alloc _),
              ((((HS'.out.setCell k4 _).setCell k4 _).setCell k5 _).setCell k5 _).alloc _, by rw [HTK2.out]; exact HX2.out⟩
            case measure => simp [intOf]; omega
          · have hX2 := hX'.one x
            have HX2 := Lib.hid hX2
            clear hX2 hX'
            go_upto_region 9 with fail
            go_region
            all_goals (go_wp2_with fail)
            all_goals go_roundw
            case rel => exact ⟨k + 1, false, _, _, _, _, by omega, by go_num, rfl, 
              (((((((HC'.out.put _ _).far n45 _ _).far n45 _ _).put _ _).far n45 _ _).far n45 _ _).since ((Since.refl _).alloc _)).drew, (((((((HD'.out.far n54 _ _).far n54 _ _).put _ _).far n54 _ _).far n54 _ _).put _ _).since ((Since.refl _).alloc _)).drew,
              (((((((((HS'.out.setCell k4 _).setCell k4 _).setCell k5 _).setCell k5 _).setCell k4 _).setCell k4 _).setCell k5 _).setCell k5 _).alloc _).drew, by rw [HTK2.out]; exact HX2.out⟩
            case measure => simp [intOf]; omega
        · obtain rfl : k = n := by omega
          have e : L.take k = L := by rw [HNL.out]; exact List.take_length
          rw [e, ← HTK.out] at hX'
          have u1 : IntKind.i64.wrap ((j : Int) + 1) = (j : Int) + 1 := IntWalk.i64_in _ (by omega)
          clear e
          go_wp2_with fail
          go_roundw
          case rel => exact ⟨j + 1, fs, px, py, qx, qy, by omega, by go_num, rfl, hC', hD', hS', hX'⟩
          case measure => simp [intOf]; omega
    · obtain rfl : j = N := by omega
      have e : LL.take j = LL := by rw [HN.out]; exact List.take_length
      rw [e] at hX
      have HX := Lib.hid hX
      have HSX := Lib.hid hS
      obtain ⟨r1, r2, rf0, rf1, r3⟩ := id hC
      obtain ⟨s1, s2, sf0, sf1, s3⟩ := id hD
      clear e hX hmin hmax hC hD
      go_upto_region 15 with fail
      go_region
      all_goals go_wp2
      all_goals refine bodyPost_ret (by simp only [results, Try.results40]; go_simp) rfl (boxpost HX.out ?_)
      all_goals have hSX := HSX.out
      all_goals (repeat (first | with_reducible (exact Since.refl _) | with_reducible assumption | with_reducible (refine Since.drew ?_) | with_reducible (refine Since.drewN ?_ _) | with_reducible (refine Since.alloc ?_ _) | (with_reducible (refine Since.setCell ?_ ?_ _); rotate_left; focus (first | (simp; done) | (simp; omega) | omega)) | (with_reducible (refine Since.trans ?_ (by with_reducible assumption)))))
set_option maxRecDepth 100000 in
set_option maxHeartbeats 16000000 in
theorem rf_boxE (A : Option Addr) (c : Nat) (LL : List (List Kt)) (w : World) (h : RdOL w w.heap.size A LL) (hn : LL.length ≤ 1000000) (hm : ∀ L, L ∈ LL → L.length ≤ 1000000) :
    Calls Try.prog 41 #[.slice A LL.length c] w (BoxPost7 LL w) := by
  have hmin : ∀ (A B : Int) (w : World), (Builtin.min_ #[3, 3] 3 #[.int .i64 A, .int .i64 B]).run Try.prog w = .ok (.int .i64 (lo7 A B)) w := fun _ _ _ => rfl
  have hmax : ∀ (A B : Int) (w : World), (Builtin.max_ #[3, 3] 3 #[.int .i64 A, .int .i64 B]).run Try.prog w = .ok (.int .i64 (hi7 A B)) w := fun _ _ _ => rfl
  obtain ⟨N, hN⟩ : ∃ N, N = LL.length := ⟨_, rfl⟩
  rw [← hN] at hn ⊢
  have HN := Lib.hid hN
  have HM := Lib.hid hm
  have HO := Lib.hid h
  have hNI : (N : Int) ≤ 1000000 := by omega
  clear hN hm h
  go_enter Try.func41, Try.ntmps41
  go_wp2_with fail
  refine wp_named fun w0 hw0 => ?_
  have hA0 : Two w0 w.heap.size (.int .i64 0) (.int .i64 0) := by subst hw0; exact (((two_new _ w.heap.size rfl _ _ _).alloc _).alloc _).alloc _
  have hB0 : Two w0 (w.heap.size + 1) (.int .i64 0) (.int .i64 0) := by subst hw0; exact ((two_new _ (w.heap.size + 1) (by simp) _ _ _).alloc _).alloc _
  have hC0 : Two w0 (w.heap.size + 1 + 1) (.int .i64 0) (.int .i64 0) := by subst hw0; exact (two_new _ (w.heap.size + 1 + 1) (by simp) _ _ _).alloc _
  have hD0 : Two w0 (w.heap.size + 1 + 1 + 1) (.int .i64 0) (.int .i64 0) := by subst hw0; exact two_new _ (w.heap.size + 1 + 1 + 1) (by simp) _ _ _
  have hS0 : Since w w0 := by subst hw0; (repeat (first | with_reducible (exact Since.refl _) | with_reducible assumption | with_reducible (refine Since.drew ?_) | with_reducible (refine Since.drewN ?_ _) | with_reducible (refine Since.alloc ?_ _) | (with_reducible (refine Since.setCell ?_ ?_ _); rotate_left; focus (first | (simp; done) | (simp; omega) | omega)) | (with_reducible (refine Since.trans ?_ (by with_reducible assumption)))))
  clear hw0
  obtain ⟨b2, hb2⟩ : ∃ b2, b2 = w.heap.size := ⟨_, rfl⟩
  obtain ⟨b3, hb3⟩ : ∃ b3, b3 = w.heap.size + 1 := ⟨_, rfl⟩
  obtain ⟨b4, hb4⟩ : ∃ b4, b4 = w.heap.size + 1 + 1 := ⟨_, rfl⟩
  obtain ⟨b5, hb5⟩ : ∃ b5, b5 = w.heap.size + 1 + 1 + 1 := ⟨_, rfl⟩
  rw [← hb5] at hD0 ⊢
  rw [← hb4] at hC0 ⊢
  rw [← hb3] at hB0 ⊢
  rw [← hb2] at hA0 ⊢
  have k2 : w.heap.size ≤ b2 := by omega
  have k3 : w.heap.size ≤ b3 := by omega
  have k4 : w.heap.size ≤ b4 := by omega
  have k5 : w.heap.size ≤ b5 := by omega
  have n24 : b4 ≠ b2 := by omega
  have n25 : b5 ≠ b2 := by omega
  have n34 : b4 ≠ b3 := by omega
  have n35 : b5 ≠ b3 := by omega
  have n45 : b5 ≠ b4 := by omega
  have n54 : b4 ≠ b5 := by omega
  have n23 : b3 ≠ b2 := by omega
  have n32 : b2 ≠ b3 := by omega
  clear hb2 hb3 hb4 hb5
  go_loopw [6, 13] (fun v y wr => ∃ (j : Nat) (fst : Bool) (ax ay bx bz : Int), j ≤ N ∧ y = .int .i64 (j : Int) ∧ v = .bool fst ∧ Two wr b2 (.int .i64 0) (.int .i64 0) ∧ Two wr b3 (.int .i64 0) (.int .i64 0) ∧ Two wr b4 (.int .i64 ax) (.int .i64 ay) ∧ Two wr b5 (.int .i64 bx) (.int .i64 bz) ∧ Since w wr ∧ BoxEx (LL.take j).flatten fst ax ay bx bz) (fun _ y _ => N - (intOf y).toNat)
  case atStart => exact ⟨0, true, 0, 0, 0, 0, by omega, rfl, rfl, hA0, hB0, hC0, hD0, hS0, boxEx_nil⟩
  case round =>
    obtain ⟨j, fst, ax, ay, bx, bz, hj, rfl, rfl, hA, hB, hC, hD, hS, hX⟩ := hrel
    clear hA0 hB0 hC0 hD0 hS0
    by_cases hjn : j < N
    · have hjn' : (j : Int) < N := by omega
      have hjL : j < LL.length := by rw [← HN.out]; exact hjn
      have hL : LL[j]? = some LL[j] := List.getElem?_eq_getElem hjL
      have hml := HM.out _ (List.mem_of_getElem? hL)
      have htk : (LL.take (j + 1)).flatten = (LL.take j).flatten ++ LL[j] := by rw [List.take_succ_eq_append_getElem hjL, List.flatten_append]; simp
      generalize LL[j] = L at *
      obtain ⟨b, o, A', c', rfl, hb, hcell, hK⟩ := HO.out.row hL
      have c1 := (hS.1 _ _ hb).trans hcell
      obtain ⟨n, hnl⟩ : ∃ n, n = L.length := ⟨_, rfl⟩
      rw [← hnl] at hml c1
      have HNL := Lib.hid hnl
      have HK := Lib.hid hK
      have HTK := Lib.hid htk
      clear hL hcell hjL hnl hK htk
      go_wp2_with fail
      go_loopw [6, 19] (fun v y wi => ∃ (k : Nat) (fst : Bool) (ax ay bx bz : Int), k ≤ n ∧ y = .int .i64 (k : Int) ∧ v = .bool fst ∧ Two wi b2 (.int .i64 0) (.int .i64 0) ∧ Two wi b3 (.int .i64 0) (.int .i64 0) ∧ Two wi b4 (.int .i64 ax) (.int .i64 ay) ∧ Two wi b5 (.int .i64 bx) (.int .i64 bz) ∧ Since w wi ∧ BoxEx ((LL.take j).flatten ++ L.take k) fst ax ay bx bz) (fun _ y _ => n - (intOf y).toNat)
      case atStart => exact ⟨0, fst, ax, ay, bx, bz, by omega, rfl, rfl, hA, hB, hC, hD, hS, by simpa using hX⟩
      case round =>
        obtain ⟨k, fs, px, py, qx, qy, hk, rfl, rfl, hA', hB', hC', hD', hS', hX'⟩ := hrel
        clear hA hB hC hD hX c1 hS
        by_cases hkn : k < n
        · have hkn' : (k : Int) < n := by omega
          have hkL : k < L.length := by rw [← HNL.out]; exact hkn
          have hx : L[k]? = some L[k] := List.getElem?_eq_getElem hkL
          have htk2 : (LL.take j).flatten ++ L.take (k + 1) = (LL.take j).flatten ++ L.take k ++ [L[k]] := by rw [List.take_succ_eq_append_getElem hkL, List.append_assoc]
          generalize L[k] = x at *
          obtain ⟨bk, ok, rfl, hbk, hck⟩ := HK.out (by omega)
          have d1 := (hS'.1 _ _ hbk).trans (hck k x hx 0 (by omega))
          have d2 := (hS'.1 _ _ hbk).trans (hck k x hx 1 (by omega))
          have d3 := (hS'.1 _ _ hbk).trans (hck k x hx 2 (by omega))
          simp only [knL, List.getD_cons_succ, List.getD_cons_zero, Nat.add_zero] at d1 d2 d3
          have u1 : IntKind.i64.wrap ((k : Int) + 1) = (k : Int) + 1 := IntWalk.i64_in _ (by omega)
          obtain ⟨r1, r2, rf0, rf1, r3⟩ := id hC'
          obtain ⟨s1, s2, sf0, sf1, s3⟩ := id hD'
          have HTK2 := Lib.hid htk2
          have HA' := Lib.hid hA'
          have HB' := Lib.hid hB'
          have HC' := Lib.hid hC'
          have HD' := Lib.hid hD'
          have HS' := Lib.hid hS'
          clear hx hck hkL htk2 hA' hB' hC' hD' hS'
          cases fs
          · have hX2 := hX'.more x
            have HX2 := Lib.hid hX2
            clear hX2 hX'
            go_wp2_with fail
            go_roundw
            case rel => exact ⟨k + 1, false, _, _, _, _, by omega, by go_num, rfl, ((((HA'.out.far n24 _ _).far n24 _ _).far n25 _ _).far n25 _ _).alloc _, ((((HB'.out.far n34 _ _).far n34 _ _).far n35 _ _).far n35 _ _).alloc _, 
              (((HC'.out.put _ _).far n45 _ _).far n45 _ _).since ((Since.refl _).alloc _), (((HD'.out.far n54 _ _).far n54 _ _).put _ _).since ((Since.refl _).alloc _),
              ((((HS'.out.setCell k4 _).setCell k4 _).setCell k5 _).setCell k5 _).alloc _, by rw [HTK2.out]; exact HX2.out⟩
            case measure => simp [intOf]; omega
          · have hX2 := hX'.one x
            have HX2 := Lib.hid hX2
            clear hX2 hX'
            go_upto_region 10 with fail
            go_region
            all_goals (go_wp2_with fail)
            all_goals go_roundw
            case rel => exact ⟨k + 1, false, _, _, _, _, by omega, by go_num, rfl, (((((((((HA'.out.far n24 _ _).far n24 _ _).far n25 _ _).far n25 _ _).far n24 _ _).far n24 _ _).far n25 _ _).far n25 _ _).alloc _).drew, (((((((((HB'.out.far n34 _ _).far n34 _ _).far n35 _ _).far n35 _ _).far n34 _ _).far n34 _ _).far n35 _ _).far n35 _ _).alloc _).drew, 
              (((((((HC'.out.put _ _).far n45 _ _).far n45 _ _).put _ _).far n45 _ _).far n45 _ _).since ((Since.refl _).alloc _)).drew, (((((((HD'.out.far n54 _ _).far n54 _ _).put _ _).far n54 _ _).far n54 _ _).put _ _).since ((Since.refl _).alloc _)).drew,
              (((((((((HS'.out.setCell k4 _).setCell k4 _).setCell k5 _).setCell k5 _).setCell k4 _).setCell k4 _).setCell k5 _).setCell k5 _).alloc _).drew, by rw [HTK2.out]; exact HX2.out⟩
            case measure => simp [intOf]; omega
        · obtain rfl : k = n := by omega
          have e : L.take k = L := by rw [HNL.out]; exact List.take_length
          rw [e, ← HTK.out] at hX'
          have u1 : IntKind.i64.wrap ((j : Int) + 1) = (j : Int) + 1 := IntWalk.i64_in _ (by omega)
          clear e
          go_wp2_with fail
          go_roundw
          case rel => exact ⟨j + 1, fs, px, py, qx, qy, by omega, by go_num, rfl, hA', hB', hC', hD', hS', hX'⟩
          case measure => simp [intOf]; omega
    · obtain rfl : j = N := by omega
      have e : LL.take j = LL := by rw [HN.out]; exact List.take_length
      rw [e] at hX
      have HX := Lib.hid hX
      have HSX := Lib.hid hS
      obtain ⟨r1, r2, rf0, rf1, r3⟩ := id hC
      obtain ⟨s1, s2, sf0, sf1, s3⟩ := id hD
      obtain ⟨z1, z2, zF0, zF1, z3⟩ := id hA
      obtain ⟨y1, y2, yF0, yF1, y3⟩ := id hB
      clear e hX hmin hmax hA hB hC hD
      go_upto_region 16 with fail
      go_region
      all_goals go_wp2
      all_goals refine bodyPost_ret (by simp only [results, Try.results41]; go_simp) rfl (boxpost HX.out ?_)
      all_goals have hSX := HSX.out
      all_goals (repeat (first | with_reducible (exact Since.refl _) | with_reducible assumption | with_reducible (refine Since.drew ?_) | with_reducible (refine Since.drewN ?_ _) | with_reducible (refine Since.alloc ?_ _) | (with_reducible (refine Since.setCell ?_ ?_ _); rotate_left; focus (first | (simp; done) | (simp; omega) | omega)) | (with_reducible (refine Since.trans ?_ (by with_reducible assumption)))))
end Go.Proofs.Ytpplnapfpoloiaa
