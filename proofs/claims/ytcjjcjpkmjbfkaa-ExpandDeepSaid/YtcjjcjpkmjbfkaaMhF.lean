/-
  Texts of this seat, put together: each with its own head.
-/
import Derived.Test.YtcjjcjpkmjbfkaaSiO
import Derived.Test.YtcjjcjpkmjbfkaaMhD
import Derived.Deep.QuietTactic
import Derived.BigQuiet
import Derived.Test.YtcjjcjpkmjbfkaaMhE
import Derived.Test.YtcjjcjpkmjbfkaaMhC

/-
  Layer 7: the box of an outline's knots, exactly: the program's and the reference's, walked.
-/
namespace Go.Proofs.Ytcjjcjpkmjbfkaa
open Go.RowKit Go.ChangeShapes Go.WideShapes Go.Deep
set_option linter.unusedVariables false
set_option linter.unusedSimpArgs false

theorem Two.drew {w : World} {b : Nat} {u v : Value} (h : Two w b u v) : Two w.drew b u v := h
theorem Two.drewN {w : World} {b : Nat} {u v : Value} (h : Two w b u v) (k : Nat) : Two (w.drewN k) b u v := h
theorem Two.alloc {w : World} {b : Nat} {u v : Value} (h : Two w b u v) (o : Obj) : Two (w.alloc o) b u v := h.since ((Since.refl w).alloc o)
theorem Two.far {w : World} {b b' : Nat} {u v : Value} (h : Two w b u v) (hb : b' ≠ b) (o : Nat) (x : Value) : Two (w.setCell ⟨b', o, none⟩ x) b u v :=
  ⟨by rw [cell_set, if_neg (fun e => hb e.1)]; exact h.1, by rw [cell_set, if_neg (fun e => hb e.1)]; exact h.2.1, (World.frozen?_setCell _ _ _ _).trans h.2.2.1, (World.frozen?_setCell _ _ _ _).trans h.2.2.2.1, by simpa [World.setCell] using h.2.2.2.2⟩
theorem Two.put {w : World} {b : Nat} {u v : Value} (h : Two w b u v) (x y : Value) : Two ((w.setCell ⟨b, 0, none⟩ x).setCell ⟨b, 1, none⟩ y) b x y := by
  obtain ⟨h1, h2, h3, h4, h5⟩ := h
  refine ⟨?_, ?_, (World.frozen?_setCell _ _ _ _).trans ((World.frozen?_setCell _ _ _ _).trans h3), (World.frozen?_setCell _ _ _ _).trans ((World.frozen?_setCell _ _ _ _).trans h4), by simpa [World.setCell] using h5⟩
  · rw [cell_set, if_neg (by omega), cell_set, if_pos ⟨rfl, rfl⟩, h1]; rfl
  · rw [cell_set, if_pos ⟨rfl, rfl⟩, cell_set, if_neg (by omega), h2]; rfl
def lo7 (a b : Int) : Int := if b < a then b else a
def hi7 (a b : Int) : Int := if a < b then b else a
theorem lo7_min (a b : Int) : lo7 a b = min a b := by unfold lo7; split <;> omega
theorem hi7_max (a b : Int) : hi7 a b = max a b := by unfold hi7; split <;> omega
/-- The box about the knots so far. -/
def BoxEx (S : List Kt) (fst : Bool) (ax ay bx bz : Int) : Prop := (fst = true ↔ S = []) ∧ ax = mn7 (S.map Kt.x) ∧ ay = mn7 (S.map Kt.y) ∧ bx = mx7 (S.map Kt.x) ∧ bz = mx7 (S.map Kt.y)
theorem boxEx_nil : BoxEx [] true 0 0 0 0 := ⟨⟨fun _ => rfl, fun _ => rfl⟩, rfl, rfl, rfl, rfl⟩
theorem BoxEx.one {S : List Kt} {ax ay bx bz : Int} (h : BoxEx S true ax ay bx bz) (k : Kt) : BoxEx (S ++ [k]) false (lo7 k.x k.x) (lo7 k.y k.y) (hi7 k.x k.x) (hi7 k.y k.y) := by
  have e := h.1.1 rfl
  subst e
  refine ⟨⟨fun h => (by cases h), fun h => (by simp at h)⟩, ?_, ?_, ?_, ?_⟩ <;> simp [mn7, mx7, lo7, hi7]
theorem BoxEx.more {S : List Kt} {ax ay bx bz : Int} (h : BoxEx S false ax ay bx bz) (k : Kt) : BoxEx (S ++ [k]) false (lo7 ax k.x) (lo7 ay k.y) (hi7 bx k.x) (hi7 bz k.y) := by
  obtain ⟨h0, rfl, rfl, rfl, rfl⟩ := h
  have hs : S ≠ [] := fun e => by have := h0.2 e; cases this
  have hm : ∀ f : Kt → Int, S.map f ≠ [] := fun f e => hs (List.map_eq_nil_iff.1 e)
  refine ⟨⟨fun h => (by cases h), fun h => (by simp at h)⟩, ?_, ?_, ?_, ?_⟩
  · rw [List.map_append, List.map_cons, List.map_nil, mn7_snoc, if_neg (hm _), lo7_min]
  · rw [List.map_append, List.map_cons, List.map_nil, mn7_snoc, if_neg (hm _), lo7_min]
  · rw [List.map_append, List.map_cons, List.map_nil, mx7_snoc, if_neg (hm _), hi7_max]
  · rw [List.map_append, List.map_cons, List.map_nil, mx7_snoc, if_neg (hm _), hi7_max]
/-- What 'Box' leaves. -/
def BoxPost7 (LL : List (List Kt)) (w : World) (e : Ending) (w' : World) : Prop := e = .returned (.tuple #[.agg #[.int .i64 (mn7 (LL.flatten.map Kt.x)), .int .i64 (mn7 (LL.flatten.map Kt.y))], .agg #[.int .i64 (mx7 (LL.flatten.map Kt.x)), .int .i64 (mx7 (LL.flatten.map Kt.y))]]) ∧ Since w w'
theorem boxpost {LL : List (List Kt)} {fst : Bool} {ax ay bx bz : Int} {w w' : World} (h : BoxEx LL.flatten fst ax ay bx bz) (hS : Since w w') : BoxPost7 LL w (.returned (.tuple #[.agg #[.int .i64 ax, .int .i64 ay], .agg #[.int .i64 bx, .int .i64 bz]])) w' := by
  obtain ⟨_, rfl, rfl, rfl, rfl⟩ := h
  exact ⟨rfl, hS⟩
set_option maxRecDepth 100000 in
set_option maxHeartbeats 16000000 in
theorem rf_boxE (A : Option Addr) (c : Nat) (LL : List (List Kt)) (w : World) (h : RdOL w w.heap.size A LL) (hn : LL.length ≤ 1000000) (hm : ∀ L, L ∈ LL → L.length ≤ 1000000) :
    Calls Try.prog 27 #[.slice A LL.length c] w (BoxPost7 LL w) := by
  have hmin : ∀ (A B : Int) (w : World), (Builtin.min_ #[3, 3] 3 #[.int .i64 A, .int .i64 B]).run Try.prog w = .ok (.int .i64 (lo7 A B)) w := fun _ _ _ => rfl
  have hmax : ∀ (A B : Int) (w : World), (Builtin.max_ #[3, 3] 3 #[.int .i64 A, .int .i64 B]).run Try.prog w = .ok (.int .i64 (hi7 A B)) w := fun _ _ _ => rfl
  obtain ⟨N, hN⟩ : ∃ N, N = LL.length := ⟨_, rfl⟩
  rw [← hN] at hn ⊢
  have HN := Lib.hid hN
  have HM := Lib.hid hm
  have HO := Lib.hid h
  have hNI : (N : Int) ≤ 1000000 := by omega
  clear hN hm h
  go_enter Try.func27, Try.ntmps27
  go_wp2_with fail
  refine wp_named fun w0 hw0 => ?_
  have hA0 : Two w0 w.heap.size (.int .i64 0) (.int .i64 0) := by subst hw0; exact (((two_new _ w.heap.size rfl _ _ _).alloc _).alloc _).alloc _
  have hB0 : Two w0 (w.heap.size + 1) (.int .i64 0) (.int .i64 0) := by subst hw0; exact ((two_new _ (w.heap.size + 1) (by simp) _ _ _).alloc _).alloc _
  have hC0 : Two w0 (w.heap.size + 1 + 1) (.int .i64 0) (.int .i64 0) := by subst hw0; exact (two_new _ (w.heap.size + 1 + 1) (by simp) _ _ _).alloc _
  have hD0 : Two w0 (w.heap.size + 1 + 1 + 1) (.int .i64 0) (.int .i64 0) := by subst hw0; exact two_new _ (w.heap.size + 1 + 1 + 1) (by simp) _ _ _
  have hS0 : Since w w0 := by subst hw0; (repeat (first | with_reducible (exact Since.refl _) | with_reducible assumption | with_reducible (refine Since.drew ?_) | with_reducible (refine Since.drewN ?_ _) | with_reducible (refine Since.alloc ?_ _) | (with_reducible (refine Since.setCell ?_ ?_ _); rotate_left; focus (first | (simp; done) | (simp; omega) | omega)) | (with_reducible (refine Since.trans ?_ (by with_reducible assumption)))))
  clear hw0
  obtain ⟨b2, hb2⟩ : ∃ b2, b2 = w.heap.size := ⟨_, rfl⟩
  obtain ⟨b3, hb3⟩ : ∃ b3, b3 = w.heap.size + 1 := ⟨_, rfl⟩
  obtain ⟨b4, hb4⟩ : ∃ b4, b4 = w.heap.size + 1 + 1 := ⟨_, rfl⟩
  obtain ⟨b5, hb5⟩ : ∃ b5, b5 = w.heap.size + 1 + 1 + 1 := ⟨_, rfl⟩
  rw [← hb5] at hD0 ⊢
  rw [← hb4] at hC0 ⊢
  rw [← hb3] at hB0 ⊢
  rw [← hb2] at hA0 ⊢
  have k2 : w.heap.size ≤ b2 := by omega
  have k3 : w.heap.size ≤ b3 := by omega
  have k4 : w.heap.size ≤ b4 := by omega
  have k5 : w.heap.size ≤ b5 := by omega
  have n24 : b4 ≠ b2 := by omega
  have n25 : b5 ≠ b2 := by omega
  have n34 : b4 ≠ b3 := by omega
  have n35 : b5 ≠ b3 := by omega
  have n45 : b5 ≠ b4 := by omega
  have n54 : b4 ≠ b5 := by omega
  have n23 : b3 ≠ b2 := by omega
  have n32 : b2 ≠ b3 := by omega
  clear hb2 hb3 hb4 hb5
  go_loopw [6, 13] (fun v y wr => ∃ (j : Nat) (fst : Bool) (ax ay bx bz : Int), j ≤ N ∧ y = .int .i64 (j : Int) ∧ v = .bool fst ∧ Two wr b2 (.int .i64 0) (.int .i64 0) ∧ Two wr b3 (.int .i64 0) (.int .i64 0) ∧ Two wr b4 (.int .i64 ax) (.int .i64 ay) ∧ Two wr b5 (.int .i64 bx) (.int .i64 bz) ∧ Since w wr ∧ BoxEx (LL.take j).flatten fst ax ay bx bz) (fun _ y _ => N - (intOf y).toNat)
  case atStart => exact ⟨0, true, 0, 0, 0, 0, by omega, rfl, rfl, hA0, hB0, hC0, hD0, hS0, boxEx_nil⟩
  case round =>
    obtain ⟨j, fst, ax, ay, bx, bz, hj, rfl, rfl, hA, hB, hC, hD, hS, hX⟩ := hrel
    clear hA0 hB0 hC0 hD0 hS0
    by_cases hjn : j < N
    · have hjn' : (j : Int) < N := by omega
      have hjL : j < LL.length := by rw [← HN.out]; exact hjn
      have hL : LL[j]? = some LL[j] := List.getElem?_eq_getElem hjL
      have hml := HM.out _ (List.mem_of_getElem? hL)
      have htk : (LL.take (j + 1)).flatten = (LL.take j).flatten ++ LL[j] := by rw [List.take_succ_eq_append_getElem hjL, List.flatten_append]; simp
      generalize LL[j] = L at *
      obtain ⟨b, o, A', c', rfl, hb, hcell, hK⟩ := HO.out.row hL
      have c1 := (hS.1 _ _ hb).trans hcell
      obtain ⟨n, hnl⟩ : ∃ n, n = L.length := ⟨_, rfl⟩
      rw [← hnl] at hml c1
      have HNL := Lib.hid hnl
      have HK := Lib.hid hK
      have HTK := Lib.hid htk
      clear hL hcell hjL hnl hK htk
      go_wp2_with fail
      go_loopw [6, 19] (fun v y wi => ∃ (k : Nat) (fst : Bool) (ax ay bx bz : Int), k ≤ n ∧ y = .int .i64 (k : Int) ∧ v = .bool fst ∧ Two wi b2 (.int .i64 0) (.int .i64 0) ∧ Two wi b3 (.int .i64 0) (.int .i64 0) ∧ Two wi b4 (.int .i64 ax) (.int .i64 ay) ∧ Two wi b5 (.int .i64 bx) (.int .i64 bz) ∧ Since w wi ∧ BoxEx ((LL.take j).flatten ++ L.take k) fst ax ay bx bz) (fun _ y _ => n - (intOf y).toNat)
      case atStart => exact ⟨0, fst, ax, ay, bx, bz, by omega, rfl, rfl, hA, hB, hC, hD, hS, by simpa using hX⟩
      case round =>
        obtain ⟨k, fs, px, py, qx, qy, hk, rfl, rfl, hA', hB', hC', hD', hS', hX'⟩ := hrel
        clear hA hB hC hD hX c1 hS
        by_cases hkn : k < n
        · have hkn' : (k : Int) < n := by omega
          have hkL : k < L.length := by rw [← HNL.out]; exact hkn
          have hx : L[k]? = some L[k] := List.getElem?_eq_getElem hkL
          have htk2 : (LL.take j).flatten ++ L.take (k + 1) = (LL.take j).flatten ++ L.take k ++ [L[k]] := by rw [List.take_succ_eq_append_getElem hkL, List.append_assoc]
          generalize L[k] = x at *
          obtain ⟨bk, ok, rfl, hbk, hck⟩ := HK.out (by omega)
          have d1 := (hS'.1 _ _ hbk).trans (hck k x hx 0 (by omega))
          have d2 := (hS'.1 _ _ hbk).trans (hck k x hx 1 (by omega))
          have d3 := (hS'.1 _ _ hbk).trans (hck k x hx 2 (by omega))
          simp only [knL, List.getD_cons_succ, List.getD_cons_zero, Nat.add_zero] at d1 d2 d3
          have u1 : IntKind.i64.wrap ((k : Int) + 1) = (k : Int) + 1 := IntWalk.i64_in _ (by omega)
          obtain ⟨r1, r2, rf0, rf1, r3⟩ := id hC'
          obtain ⟨s1, s2, sf0, sf1, s3⟩ := id hD'
          have HTK2 := Lib.hid htk2
          have HA' := Lib.hid hA'
          have HB' := Lib.hid hB'
          have HC' := Lib.hid hC'
          have HD' := Lib.hid hD'
          have HS' := Lib.hid hS'
          clear hx hck hkL htk2 hA' hB' hC' hD' hS'
          cases fs
          · have hX2 := hX'.more x
            have HX2 := Lib.hid hX2
            clear hX2 hX'
            go_wp2_with fail
            go_roundw
            case rel => exact ⟨k + 1, false, _, _, _, _, by omega, by go_num, rfl, ((((HA'.out.far n24 _ _).far n24 _ _).far n25 _ _).far n25 _ _).alloc _, ((((HB'.out.far n34 _ _).far n34 _ _).far n35 _ _).far n35 _ _).alloc _, 
              (((HC'.out.put _ _).far n45 _ _).far n45 _ _).since ((Since.refl _).alloc _), (((HD'.out.far n54 _ _).far n54 _ _).put _ _).since ((Since.refl _).alloc _),
              ((((HS'.out.setCell k4 _).setCell k4 _).setCell k5 _).setCell k5 _).alloc _, by rw [HTK2.out]; exact HX2.out⟩
            case measure => simp [intOf]; omega
          · have hX2 := hX'.one x
            have HX2 := Lib.hid hX2
            clear hX2 hX'
            go_upto_region 10 with fail
            go_region
            all_goals (go_wp2_with fail)
            all_goals go_roundw
            case rel => exact ⟨k + 1, false, _, _, _, _, by omega, by go_num, rfl, (((((((((HA'.out.far n24 _ _).far n24 _ _).far n25 _ _).far n25 _ _).far n24 _ _).far n24 _ _).far n25 _ _).far n25 _ _).alloc _).drew, (((((((((HB'.out.far n34 _ _).far n34 _ _).far n35 _ _).far n35 _ _).far n34 _ _).far n34 _ _).far n35 _ _).far n35 _ _).alloc _).drew, 
              (((((((HC'.out.put _ _).far n45 _ _).far n45 _ _).put _ _).far n45 _ _).far n45 _ _).since ((Since.refl _).alloc _)).drew, (((((((HD'.out.far n54 _ _).far n54 _ _).put _ _).far n54 _ _).far n54 _ _).put _ _).since ((Since.refl _).alloc _)).drew,
              (((((((((HS'.out.setCell k4 _).setCell k4 _).setCell k5 _).setCell k5 _).setCell k4 _).setCell k4 _).setCell k5 _).setCell k5 _).alloc _).drew, by rw [HTK2.out]; exact HX2.out⟩
            case measure => simp [intOf]; omega
        · obtain rfl : k = n := by omega
          have e : L.take k = L := by rw [HNL.out]; exact List.take_length
          rw [e, ← HTK.out] at hX'
          have u1 : IntKind.i64.wrap ((j : Int) + 1) = (j : Int) + 1 := IntWalk.i64_in _ (by omega)
          clear e
          go_wp2_with fail
          go_roundw
          case rel => exact ⟨j + 1, fs, px, py, qx, qy, by omega, by go_num, rfl, hA', hB', hC', hD', hS', hX'⟩
          case measure => simp [intOf]; omega
    · obtain rfl : j = N := by omega
      have e : LL.take j = LL := by rw [HN.out]; exact List.take_length
      rw [e] at hX
      have HX := Lib.hid hX
      have HSX := Lib.hid hS
      obtain ⟨r1, r2, rf0, rf1, r3⟩ := id hC
      obtain ⟨s1, s2, sf0, sf1, s3⟩ := id hD
      obtain ⟨z1, z2, zF0, zF1, z3⟩ := id hA
      obtain ⟨y1, y2, yF0, yF1, y3⟩ := id hB
      clear e hX hmin hmax hA hB hC hD
      go_upto_region 16 with fail
      go_region
      all_goals go_wp2
      all_goals refine bodyPost_ret (by simp only [results, Try.results27]; go_simp) rfl (boxpost HX.out ?_)
      all_goals have hSX := HSX.out
      all_goals (repeat (first | with_reducible (exact Since.refl _) | with_reducible assumption | with_reducible (refine Since.drew ?_) | with_reducible (refine Since.drewN ?_ _) | with_reducible (refine Since.alloc ?_ _) | (with_reducible (refine Since.setCell ?_ ?_ _); rotate_left; focus (first | (simp; done) | (simp; omega) | omega)) | (with_reducible (refine Since.trans ?_ (by with_reducible assumption)))))
end Go.Proofs.Ytcjjcjpkmjbfkaa

/-
  Layer 7: check, walked: why a glyph can't be written.
-/
namespace Go.Proofs.Ytcjjcjpkmjbfkaa
open Go.RowKit Go.ChangeShapes Go.WideShapes Go.Deep
set_option linter.unusedVariables false
set_option linter.unusedSimpArgs false

/-- A block of a knot. -/
def Tri (w : World) (b : Nat) (x y : Int) (o : Bool) : Prop := w.cell? ⟨b, 0, none⟩ = some (.int .i64 x) ∧ w.cell? ⟨b, 1, none⟩ = some (.int .i64 y) ∧ w.cell? ⟨b, 2, none⟩ = some (.bool o) ∧ w.frozen? ⟨b, 0, none⟩ = false ∧ w.frozen? ⟨b, 1, none⟩ = false ∧ w.frozen? ⟨b, 2, none⟩ = false ∧ b < w.heap.size
theorem Tri.since {w w' : World} {b : Nat} {x y : Int} {o : Bool} (h : Tri w b x y o) (k : Since w w') : Tri w' b x y o := by
  obtain ⟨h1, h2, h3, h4, h5, h6, h7⟩ := h
  exact ⟨(k.1 _ _ h7).trans h1, (k.1 _ _ h7).trans h2, (k.1 _ _ h7).trans h3, (k.2.1 _ _ h7).trans h4, (k.2.1 _ _ h7).trans h5, (k.2.1 _ _ h7).trans h6, k.2.2.1 _ h7⟩
theorem tri_new (w : World) (b : Nat) (hb : b = w.heap.size) (x y : Int) (o : Bool) (t : TypeId) : Tri (w.alloc (.cells #[.int .i64 x, .int .i64 y, .bool o] t)) b x y o := by
  subst hb
  have h : Row (w.alloc (.cells #[.int .i64 x, .int .i64 y, .bool o] t)) w.heap.size 3 (fun j => if j = 0 then .int .i64 x else if j = 1 then .int .i64 y else .bool o) := Row.of_cells fun j hj => by
    have h : j = 0 ∨ j = 1 ∨ j = 2 := by omega
    rcases h with rfl | rfl | rfl <;> rfl
  exact ⟨h.1 0 (by omega), h.1 1 (by omega), h.1 2 (by omega), h.2.1 0, h.2.1 1, h.2.1 2, h.2.2⟩
theorem Tri.drew {w : World} {b : Nat} {x y : Int} {o : Bool} (h : Tri w b x y o) : Tri w.drew b x y o := h
theorem Tri.alloc {w : World} {b : Nat} {x y : Int} {o : Bool} (h : Tri w b x y o) (ob : Obj) : Tri (w.alloc ob) b x y o := h.since ((Since.refl w).alloc ob)
theorem Tri.put {w : World} {b : Nat} {x0 y0 : Int} {o0 : Bool} (h : Tri w b x0 y0 o0) (x y : Int) (o : Bool) : Tri (((w.setCell ⟨b, 0, none⟩ (.int .i64 x)).setCell ⟨b, 1, none⟩ (.int .i64 y)).setCell ⟨b, 2, none⟩ (.bool o)) b x y o := by
  obtain ⟨h1, h2, h3, h4, h5, h6, h7⟩ := h
  have F : ∀ j, w.frozen? ⟨b, j, none⟩ = false → (((w.setCell ⟨b, 0, none⟩ (.int .i64 x)).setCell ⟨b, 1, none⟩ (.int .i64 y)).setCell ⟨b, 2, none⟩ (.bool o)).frozen? ⟨b, j, none⟩ = false := fun j hj => (World.frozen?_setCell _ _ _ _).trans ((World.frozen?_setCell _ _ _ _).trans ((World.frozen?_setCell _ _ _ _).trans hj))
  refine ⟨?_, ?_, ?_, F 0 h4, F 1 h5, F 2 h6, by simpa [World.setCell] using h7⟩
  · rw [cell_set, if_neg (by omega), cell_set, if_neg (by omega), cell_set, if_pos ⟨rfl, rfl⟩, h1]; rfl
  · rw [cell_set, if_neg (by omega), cell_set, if_pos ⟨rfl, rfl⟩, cell_set, if_neg (by omega), h2]; rfl
  · rw [cell_set, if_pos ⟨rfl, rfl⟩, cell_set, if_neg (by omega), cell_set, if_neg (by omega), h3]; rfl
/-- The last knot so far. -/
def lastK (S : List Kt) : Kt := S.getLastD ⟨0, 0, false⟩
theorem lastK_snoc (S : List Kt) (k : Kt) : lastK (S ++ [k]) = k := by unfold lastK; simp
theorem getLastD_map' {α β : Type} (f : α → β) : ∀ (S : List α) (d : α), (S.map f).getLastD (f d) = f (S.getLastD d) := by
  intro S
  induction S with
  | nil => intro d; rfl
  | cons a S ih => intro d; rw [List.map_cons, List.getLastD_cons, List.getLastD_cons]; exact ih a
theorem lastK_x (S : List Kt) : (S.map Kt.x).getLastD 0 = (lastK S).x := getLastD_map' Kt.x S ⟨0, 0, false⟩
theorem lastK_y (S : List Kt) : (S.map Kt.y).getLastD 0 = (lastK S).y := getLastD_map' Kt.y S ⟨0, 0, false⟩
def OkK (S : List Kt) : Prop := StepsOk 0 (S.map Kt.x) ∧ StepsOk 0 (S.map Kt.y)
theorem okK_nil : OkK [] := ⟨trivial, trivial⟩
theorem okK_snoc (S : List Kt) (k : Kt) : OkK (S ++ [k]) ↔ OkK S ∧ (Sh k.x ∧ Sh k.y ∧ Sh (k.x - (lastK S).x) ∧ Sh (k.y - (lastK S).y)) := by
  unfold OkK
  rw [List.map_append, List.map_append, List.map_cons, List.map_cons, List.map_nil, List.map_nil, stepsOk_snoc, stepsOk_snoc, lastK_x, lastK_y]
  constructor
  · rintro ⟨⟨h1, h2, h3⟩, h4, h5, h6⟩; exact ⟨⟨h1, h4⟩, h3, h6, h2, h5⟩
  · rintro ⟨⟨h1, h4⟩, h3, h6, h2, h5⟩; exact ⟨⟨h1, h2, h3⟩, h4, h5, h6⟩
theorem stepsOk_left : ∀ (a b : List Int) (v : Int), StepsOk v (a ++ b) → StepsOk v a := by
  intro a
  induction a with
  | nil => intro b v _; trivial
  | cons x a ih => intro b v h; obtain ⟨h1, h2, h3⟩ := h; exact ⟨h1, h2, ih b x h3⟩
theorem okK_left {a b : List Kt} (h : OkK (a ++ b)) : OkK a := by
  unfold OkK at h ⊢
  rw [List.map_append, List.map_append] at h
  exact ⟨stepsOk_left _ _ _ h.1, stepsOk_left _ _ _ h.2⟩
theorem okK_last {S : List Kt} (h : OkK S) : Sh (lastK S).x ∧ Sh (lastK S).y := by
  rcases List.eq_nil_or_concat S with rfl | ⟨T, k, rfl⟩
  · exact ⟨by decide, by decide⟩
  · rw [List.concat_eq_append] at h ⊢
    rw [lastK_snoc]
    have := ((okK_snoc T k).1 h).2
    exact ⟨this.1, this.2.1⟩
theorem flat_pre {LL : List (List Kt)} {j k : Nat} {L : List Kt} (hL : LL[j]? = some L) : ∃ R, LL.flatten = ((LL.take j).flatten ++ L.take k) ++ R := by
  have hj : j < LL.length := by
    rcases Nat.lt_or_ge j LL.length with h | h
    · exact h
    · rw [List.getElem?_eq_none h] at hL; cases hL
  have e : LL[j] = L := by rw [List.getElem?_eq_getElem hj] at hL; injection hL
  refine ⟨L.drop k ++ (LL.drop (j + 1)).flatten, ?_⟩
  have h1 : LL = LL.take j ++ LL[j] :: LL.drop (j + 1) := by rw [← List.drop_eq_getElem_cons hj, List.take_append_drop]
  conv => lhs; rw [h1]
  rw [List.flatten_append, List.flatten_cons, e, ← List.append_assoc, ← List.append_assoc, List.append_assoc _ (L.take k), List.take_append_drop, List.append_assoc]
/-- Why an outline with so many bytes of a code can't be written. -/
def chkE (LL : List (List Kt)) (m : Nat) : Int := if 0 ∈ LL.map List.length then 4 else if 4096 < sumL LL ∨ 65535 < m then 7 else if StepsOk 0 (LL.flatten.map Kt.x) ∧ StepsOk 0 (LL.flatten.map Kt.y) then 0 else 6
def ChkPost (LL : List (List Kt)) (m : Nat) (w : World) (e : Ending) (w' : World) : Prop := e = .returned (.int .i64 (chkE LL m)) ∧ Since w w'
theorem chkpost {LL : List (List Kt)} {m : Nat} {w w' : World} {x : Int} (h : chkE LL m = x) (hS : Since w w') : ChkPost LL m w (.returned (.int .i64 x)) w' := ⟨by rw [h], hS⟩
theorem chk_bad {LL : List (List Kt)} {m j k : Nat} {L : List Kt} {x : Kt} (h0 : 0 ∉ LL.map List.length) (h1 : ¬ (4096 < sumL LL ∨ 65535 < m)) (hL : LL[j]? = some L) (hx : L[k]? = some x) (hbad : ¬ (Sh x.x ∧ Sh x.y ∧ Sh (x.x - (lastK ((LL.take j).flatten ++ L.take k)).x) ∧ Sh (x.y - (lastK ((LL.take j).flatten ++ L.take k)).y))) : chkE LL m = 6 := by
  unfold chkE
  rw [if_neg h0, if_neg h1, if_neg]
  intro h
  obtain ⟨R, hR⟩ := flat_pre (k := k + 1) hL
  have hk : k < L.length := by
    rcases Nat.lt_or_ge k L.length with h | h
    · exact h
    · rw [List.getElem?_eq_none h] at hx; cases hx
  have e : L[k] = x := by rw [List.getElem?_eq_getElem hk] at hx; injection hx
  rw [List.take_succ_eq_append_getElem hk, e, ← List.append_assoc] at hR
  have h2 : OkK LL.flatten := h
  rw [hR] at h2
  exact hbad ((okK_snoc _ _).1 (okK_left h2)).2
end Go.Proofs.Ytcjjcjpkmjbfkaa

/-
  Layer 7: writeFlags, walked.
-/
namespace Go.Proofs.Ytcjjcjpkmjbfkaa
open Go.RowKit Go.ChangeShapes Go.WideShapes Go.Deep
set_option linter.unusedVariables false
set_option linter.unusedSimpArgs false

theorem or8_fin : ∀ n : Fin 64, (n.val / 8 % 2 = 1) ∨ bits .or .i64 (n.val : Int) 8 = (n.val : Int) + 8 := by decide
theorem or8 {f : Int} (h : FlOk f) (h6 : f < 64) : bits .or .i64 f 8 = f + 8 := by
  obtain ⟨h0, h1, h2⟩ := h
  obtain ⟨n, rfl⟩ := Int.eq_ofNat_of_zero_le h0
  rcases or8_fin ⟨n, by omega⟩ with h | h
  · exact absurd (show Has8 (n : Int) 8 by unfold Has8; simp only at h; omega) h2
  · exact h
theorem drop_cons7 {G : List Int} {i : Nat} (h : i < G.length) : G.drop i = fnL G i :: G.drop (i + 1) := by
  rw [List.drop_eq_getElem_cons h]
  congr 1
  have := fnL_get h
  rw [List.getElem?_eq_getElem h] at this
  exact Option.some.inj this
theorem fnL_drop (G : List Int) (i j : Nat) : (G.drop i).getD j 0 = fnL G (i + j) := by
  unfold fnL; rw [List.getD_eq_getElem?_getD, List.getD_eq_getElem?_getD, List.getElem?_drop]
/-- Behind a row of r flags that are the same, and no longer. -/
theorem rle7_row {G : List Int} {i r : Nat} (h : i < G.length) (hr : 1 ≤ r) (hr2 : r ≤ 256) (hir : i + r ≤ G.length) (hs : ∀ t, t < r → fnL G (i + t) = fnL G i) (hend : r = 256 ∨ i + r = G.length ∨ fnL G (i + r) ≠ fnL G i) :
    rle7 (G.drop i) = (if r = 1 then [fnL G i] else [fnL G i + 8, ((r - 1 : Nat) : Int)]) ++ rle7 (G.drop (i + r)) := by
  have hrun : run7 (fnL G i) 255 (G.drop (i + 1)) = r - 1 := by
    refine run7_is _ 255 _ (r - 1) (by omega) (by rw [List.length_drop]; omega) (fun t ht => ?_) ?_
    · rw [fnL_drop, show i + 1 + t = i + (t + 1) by omega]; exact hs (t + 1) (by omega)
    · rcases hend with h1 | h1 | h1
      · exact .inl (by omega)
      · exact .inr (.inl (by rw [List.length_drop]; omega))
      · exact .inr (.inr (by rw [fnL_drop, show i + 1 + (r - 1) = i + r by omega]; exact h1))
  rw [drop_cons7 h, rle7_cons, hrun]
  by_cases h1 : r = 1
  · subst h1
    rw [if_pos (by omega), if_pos rfl]; rfl
  · rw [if_neg (by omega), if_neg h1, List.drop_drop, show i + 1 + (r - 1) = i + r by omega]; rfl
/-- What 'writeFlags' leaves. -/
def WfPost (L : List Int) (w : World) (e : Ending) (w' : World) : Prop := ∃ v, e = .returned v ∧ OwnB w' w.heap.size v L ∧ Since w w'
def WfHead (G : List Int) (w : World) (m : Nat) (v y : Value) (wr : World) : Prop := ∃ (i : Nat) (P : List Int), i ≤ m ∧ y = .int .i64 (i : Int) ∧ OwnB wr w.heap.size v P ∧ P.length ≤ i ∧ Since w wr ∧ P ++ rle7 (G.drop i) = rle7 G
end Go.Proofs.Ytcjjcjpkmjbfkaa

/-
  Layer 7: writeKnots, walked.
-/
namespace Go.Proofs.Ytcjjcjpkmjbfkaa
open Go.RowKit Go.ChangeShapes Go.WideShapes Go.Deep
set_option linter.unusedVariables false
set_option linter.unusedSimpArgs false

theorem apart_new {α β : Type} {e1 : α → List Value} {e2 : β → List Value} {t1 t2 : TypeId} {k1 k2 b1 : Nat} {w1 w2 : World} {v1 v2 : Value} {L1 : List α} {L2 : List β} (h1 : OwnG t1 k1 e1 w1 b1 v1 L1) (h2 : OwnG t2 k2 e2 w2 w1.heap.size v2 L2) : Apart7 v1 v2 := fun q ha hb => by
  have := (h1.lt ha).2
  have := (h2.lt hb).1
  omega
theorem apart_type {α β : Type} {e1 : α → List Value} {e2 : β → List Value} {t1 t2 : TypeId} {k1 k2 b1 b2 : Nat} {w : World} {v1 v2 : Value} {L1 : List α} {L2 : List β} (h1 : OwnG t1 k1 e1 w b1 v1 L1) (h2 : OwnG t2 k2 e2 w b2 v2 L2) (ht : t1 ≠ t2) : Apart7 v1 v2 := fun q ha => own_apart h1 h2 ht ha
theorem OwnG.growA {α : Type} {enc : α → List Value} {t : TypeId} {k base : Nat} {w w' : World} {v u : Value} {L : List α} (h : OwnG t k enc w base u L) (hg : w.grownBy w' v.ownBlock) (ha : Apart7 v u) : OwnG t k enc w' base u L :=
  OwnG.grown h hg (fun q hq e => ha q e hq)
theorem int_byte_ne : 3 ≠ 5 := by decide
/-- append of bytes to bytes of the call's own; where they lie then. -/
theorem wpList_append_bb {w w0 : World} {ops : Array Oper} {rest : List Oper} {o : Oper} {a : Act} {Q : Exit → Act → World → Prop} (hgd : o.guard = none) (s x : Operand)
    (ho : o.op = .call { callee := .builtin .append, args := #[s, x], argTypes := #[25, 25] })
    (hS : Since w0 w) (base : Nat) (hb0 : w0.heap.size ≤ base) (hb1 : base ≤ w.heap.size) (v : Value) (L : List Int) (hs : a.eval s = v) (hown : OwnB w base v L) (B : Nat) (A : Option Addr) (n c : Nat) (M : List Int) (hn : n = M.length) (hx : a.eval x = .slice A n c) (hr : RdB w B A M)
    (hbytes : L.length + M.length ≤ 140737488355328)
    (h : ∀ v' w', OwnB w' base v' (L ++ M) → Since w0 w' → w.grownBy w' v.ownBlock → (v'.ownBlock = v.ownBlock ∨ v'.ownBlock = some w.heap.size) → (∀ q, v.ownBlock = some q → base ≤ q ∧ q < w.heap.size) → wpList Try.prog ops Q rest (a.put o.dst v') w') :
    wpList Try.prog ops Q (o :: rest) a w := by
  subst hn
  exact wpList_append_w hgd s x 25 25 5 5 ho (by omega) byL_len byL_one 1 Try.underlying25 Try.underlying25 infoBy base v L hs hown B A c M hx hr (by omega) (by simp only [maxLen]; omega) hb1 (fun v' w' h9 hg hlt hw => h v' w' h9 (since_grown hS hg (fun k hk => Nat.le_trans hb0 (hlt k hk).1)) hg hw hlt)
theorem wpList_append_bw {w w0 : World} {ops : Array Oper} {rest : List Oper} {o : Oper} {a : Act} {Q : Exit → Act → World → Prop} (hgd : o.guard = none) (s x : Operand)
    (ho : o.op = .call { callee := .builtin .append, args := #[s, x], argTypes := #[25, 25] })
    (hS : Since w0 w) (v : Value) (L : List Int) (hs : a.eval s = v) (hown : OwnB w w0.heap.size v L) (B : Nat) (A : Option Addr) (n c : Nat) (M : List Int) (hn : n = M.length) (hx : a.eval x = .slice A n c) (hr : RdB w B A M)
    (hbytes : L.length + M.length ≤ 140737488355328)
    (h : ∀ v' w', OwnB w' w0.heap.size v' (L ++ M) → Since w0 w' → w.grownBy w' v.ownBlock → (v'.ownBlock = v.ownBlock ∨ v'.ownBlock = some w.heap.size) → wpList Try.prog ops Q rest (a.put o.dst v') w') :
    wpList Try.prog ops Q (o :: rest) a w :=
  wpList_append_bb hgd s x ho hS w0.heap.size (Nat.le_refl _) hS.below.size v L hs hown B A n c M hn hx hr hbytes (fun v' w' h1 h2 h3 h4 _ => h v' w' h1 h2 h3 h4)
/-- append of one number, just built. -/
theorem wpList_append_ib {w w0 : World} {ops : Array Oper} {rest : List Oper} {o : Oper} {a : Act} {Q : Exit → Act → World → Prop} (hgd : o.guard = none) (s x : Operand)
    (ho : o.op = .call { callee := .builtin .append, args := #[s, x], argTypes := #[72, 72] })
    (ty : TypeId) (hS : Since w0 w) (base : Nat) (hb0 : w0.heap.size ≤ base) (hb1 : base ≤ w.heap.size) (v : Value) (L : List Int) (hs : a.eval s = v) (hown : OwnI w base v L) (b c : Nat) (y : Int) (hx : a.eval x = .slice (some ⟨b, 0, none⟩) 1 c) (hb : b = w.heap.size)
    (hbytes : L.length ≤ 3000000)
    (h : ∀ v' w', OwnI w' base v' (L ++ [y]) → Since w0 w' → (w.alloc (.cells #[.int .i64 y] ty)).grownBy w' v.ownBlock → (∀ q, v.ownBlock = some q → base ≤ q ∧ q < w.heap.size) → wpList Try.prog ops Q rest (a.put o.dst v') w') :
    wpList Try.prog ops Q (o :: rest) a (w.alloc (.cells #[.int .i64 y] ty)) :=
  wpList_append_g hgd s x 72 3 ho (by omega) inL_len inL_one 8 Try.underlying72 infoIn base v L hs (hown.alloc _) _ _ c [y] hx (in_one w b hb ty y) (by simp only [List.length_cons, List.length_nil]; omega) (by simp only [List.length_cons, List.length_nil, maxLen]; omega) (by simp; omega) (fun v' w' h9 hg hlt => h v' w' h9 (since_grown (hS.alloc _) hg (fun k hk => Nat.le_trans hb0 (hlt k hk).1)) hg (fun q hq => hown.lt hq))
theorem own_rdv {α : Type} {enc : α → List Value} {t : TypeId} {k base n c : Nat} {w : World} {A : Option Addr} {L : List α} (hk0 : 0 < k) (hk : ∀ a, (enc a).length = k) (h : OwnG t k enc w base (.slice A n c) L) : RdG k enc w w.heap.size A L := by
  obtain ⟨A', c', e, _, hr⟩ := h.rd hk0 hk
  injection e with e1 e2 e3
  rw [e1]; exact hr
theorem Tri.grown {w w' : World} {b : Nat} {x y : Int} {o : Bool} {row : Option Nat} (h : Tri w b x y o) (hg : w.grownBy w' row) (hr : ∀ q, row = some q → q ≠ b) : Tri w' b x y o := by
  obtain ⟨h1, h2, h3, h4, h5, h6, h7⟩ := h
  have hne : row ≠ some b := fun e => hr b e rfl
  have hf : ∀ j, w.frozen? ⟨b, j, none⟩ = false → w'.frozen? ⟨b, j, none⟩ = false := fun j hj => by rw [← hj]; exact World.frozen?_of_block (hg.block b h7 (fun x => hne x.symm))
  exact ⟨cell_grown h1 h7 hg hne, cell_grown h2 h7 hg hne, cell_grown h3 h7 hg hne, hf 0 h4, hf 1 h5, hf 2 h6, Nat.lt_of_lt_of_le h7 hg.size⟩
theorem or_fl7 (on : Bool) (dx dy : Int) : bits .or .i64 (bits .or .i64 (if on then 1 else 0) (sfl7 2 16 dx)) (sfl7 4 32 dy) = fl7 on dx dy := by
  unfold fl7
  rcases sfl7_x dx with ⟨_, h⟩ | ⟨_, _, h⟩ | ⟨_, _, h⟩ | ⟨_, h⟩ <;> rcases sfl7_y dy with ⟨_, k⟩ | ⟨_, _, k⟩ | ⟨_, _, k⟩ | ⟨_, k⟩ <;> rw [h, k] <;> cases on <;> decide
def xsK (S : List Kt) : List Int := S.map Kt.x
def ysK (S : List Kt) : List Int := S.map Kt.y
def osK (S : List Kt) : List Bool := S.map Kt.o
def flK (S : List Kt) : List Int := fls7 0 0 (xsK S) (ysK S) (osK S)
def sxK (S : List Kt) : List Int := stps7 0 (xsK S)
def syK (S : List Kt) : List Int := stps7 0 (ysK S)
theorem flK_snoc (S : List Kt) (k : Kt) : flK (S ++ [k]) = flK S ++ [fl7 k.o (k.x - (lastK S).x) (k.y - (lastK S).y)] := by
  unfold flK xsK ysK osK
  rw [List.map_append, List.map_append, List.map_append, List.map_cons, List.map_cons, List.map_cons, List.map_nil, List.map_nil, List.map_nil, fls7_snoc _ _ _ _ _ _ _ _ (by simp) (by simp), lastK_x, lastK_y]
theorem sxK_snoc (S : List Kt) (k : Kt) : sxK (S ++ [k]) = sxK S ++ stp7 (k.x - (lastK S).x) := by
  unfold sxK xsK
  rw [List.map_append, List.map_cons, List.map_nil, stps7_snoc, lastK_x]
theorem syK_snoc (S : List Kt) (k : Kt) : syK (S ++ [k]) = syK S ++ stp7 (k.y - (lastK S).y) := by
  unfold syK ysK
  rw [List.map_append, List.map_cons, List.map_nil, stps7_snoc, lastK_y]
theorem flK_len (S : List Kt) : (flK S).length = S.length := by
  unfold flK xsK ysK osK
  rw [fls7_len _ _ _ _ _ (by simp) (by simp)]; simp
theorem sxK_le (S : List Kt) : (sxK S).length ≤ 2 * S.length := by
  have := stps7_le (xsK S) 0
  unfold sxK; unfold xsK at this ⊢; simpa using this
theorem syK_le (S : List Kt) : (syK S).length ≤ 2 * S.length := by
  have := stps7_le (ysK S) 0
  unfold syK; unfold ysK at this ⊢; simpa using this
theorem fls7_64 : ∀ (xs ys : List Int) (os : List Bool) (vx vy : Int), ∀ g ∈ fls7 vx vy xs ys os, g < 64 := by
  intro xs
  induction xs with
  | nil => intro ys os vx vy g hg; simp [fls7] at hg
  | cons x xs ih =>
    intro ys os vx vy g hg
    cases ys with
    | nil => simp [fls7] at hg
    | cons y ys =>
      cases os with
      | nil => simp [fls7] at hg
      | cons o os =>
        unfold fls7 at hg
        rcases List.mem_cons.1 hg with rfl | h
        · exact (fl7_ok _ _ _).2
        · exact ih ys os x y g h
theorem flK_ok (S : List Kt) : ∀ g ∈ flK S, FlOk g ∧ g < 64 := fun g hg => ⟨fls7_ok _ _ _ 0 0 g hg, fls7_64 _ _ _ 0 0 g hg⟩
/-- The three rows that are made. -/
structure WkIn (w : World) (v1 v2 v3 : Value) (lb : Nat) (S : List Kt) (wr : World) : Prop where
  f : OwnI wr (lb + 1) v1 (flK S)
  x : OwnB wr (lb + 1) v2 (sxK S)
  y : OwnB wr (lb + 1) v3 (syK S)
  a : Apart7 v2 v3
  l : ∃ o, Tri wr lb (lastK S).x (lastK S).y o
  s : Since w wr
/-- A round's world: the rows, the two steps' bytes, the knot and the last one. -/
structure WkMid (w : World) (lb kb : Nat) (v1 v2 v3 vx vy : Value) (FS XS YS px py : List Int) (x1 x2 : Int) (x3 : Bool) (lx ly : Int) (lo : Bool) (wr : World) : Prop where
  f : OwnI wr (lb + 1) v1 FS
  x : OwnB wr (lb + 1) v2 XS
  y : OwnB wr (lb + 1) v3 YS
  dx : ∃ b, OwnB wr b vx px
  dy : ∃ b, OwnB wr b vy py
  a : Apart7 v2 v3
  ax : Apart7 v2 vx
  ay : Apart7 v2 vy
  by_ : Apart7 v3 vy
  k2 : ∀ q, v2.ownBlock = some q → q ≠ kb
  k3 : ∀ q, v3.ownBlock = some q → q ≠ kb
  tk : Tri wr kb x1 x2 x3
  tl : Tri wr lb lx ly lo
  s : Since w wr
section
variable {w wr w' : World} {lb kb : Nat} {v1 v2 v3 vx vy v' : Value} {FS XS YS px py : List Int} {x1 x2 lx ly : Int} {x3 lo : Bool}
theorem WkMid.alloc (h : WkMid w lb kb v1 v2 v3 vx vy FS XS YS px py x1 x2 x3 lx ly lo wr) (o : Obj) : WkMid w lb kb v1 v2 v3 vx vy FS XS YS px py x1 x2 x3 lx ly lo (wr.alloc o) :=
  ⟨h.f.alloc o, h.x.alloc o, h.y.alloc o, h.dx.imp (fun _ k => k.alloc o), h.dy.imp (fun _ k => k.alloc o), h.a, h.ax, h.ay, h.by_, h.k2, h.k3, h.tk.alloc o, h.tl.alloc o, h.s.alloc o⟩
theorem WkMid.flag (h : WkMid w lb kb v1 v2 v3 vx vy FS XS YS px py x1 x2 x3 lx ly lo wr) {G : List Int} (hO : OwnI w' (lb + 1) v' G) (hg : wr.grownBy w' v1.ownBlock) (hS : Since w w') (hk : ∀ q, v1.ownBlock = some q → q ≠ kb) : WkMid w lb kb v' v2 v3 vx vy G XS YS px py x1 x2 x3 lx ly lo w' := by
  obtain ⟨bx, hx⟩ := h.dx
  obtain ⟨b_y, hy⟩ := h.dy
  exact ⟨hO, h.x.growA hg (apart_type h.f h.x int_byte_ne), h.y.growA hg (apart_type h.f h.y int_byte_ne), ⟨bx, hx.growA hg (apart_type h.f hx int_byte_ne)⟩, ⟨b_y, hy.growA hg (apart_type h.f hy int_byte_ne)⟩, h.a, h.ax, h.ay, h.by_, h.k2, h.k3,
    h.tk.grown hg hk, h.tl.grown hg (fun q hq => by have := (h.f.lt hq).1; omega), hS⟩
theorem WkMid.xs (h : WkMid w lb kb v1 v2 v3 vx vy FS XS YS px py x1 x2 x3 lx ly lo wr) {G : List Int} (hO : OwnB w' (lb + 1) v' G) (hg : wr.grownBy w' v2.ownBlock) (hw : v'.ownBlock = v2.ownBlock ∨ v'.ownBlock = some wr.heap.size) (hS : Since w w') :
    (∃ b, OwnB w' b vy py) ∧ OwnI w' (lb + 1) v1 FS ∧ OwnB w' (lb + 1) v3 YS ∧ Apart7 v' v3 ∧ Apart7 v3 vy ∧ (∀ q, v3.ownBlock = some q → q ≠ kb) ∧ Tri w' kb x1 x2 x3 ∧ Tri w' lb lx ly lo := by
  obtain ⟨b_y, hy⟩ := h.dy
  exact ⟨⟨b_y, hy.growA hg h.ay⟩, h.f.growA hg (apart_type h.x h.f (Ne.symm int_byte_ne)), h.y.growA hg h.a, h.a.grow h.y hw, h.by_, h.k3, h.tk.grown hg h.k2, h.tl.grown hg (fun q hq => by have := (h.x.lt hq).1; omega)⟩
end
end Go.Proofs.Ytcjjcjpkmjbfkaa
