/-
  Texts of this seat, put together: each with its own head.
-/
import Derived.Test.YtckochcocflleaaPqBe
import Derived.Deep.CutBlock
import Derived.Lib.Strings
import Derived.Lib.Slices
import Derived.Lib.Small
import Derived.Lib.Walk
import Derived.Lib.BitFns
import Derived.Lib.ItoaNum

/-
  Layer 15: 'touching', walked.
-/
namespace Go.Proofs.Ytckochcocflleaa
open Go.RowKit Go.Maps
set_option linter.unusedVariables false

def pts (b : Bool) (x y : Int) : List (Int × Int) := if b then [(x, y)] else []
theorem ends_pts (s t : Ln) : ends s t = pts (onB s.ax s.ay t) s.ax s.ay ++ pts (onB s.bx s.bz t) s.bx s.bz ++ pts (onB t.ax t.ay s) t.ax t.ay ++ pts (onB t.bx t.bz s) t.bx t.bz := rfl
set_option maxRecDepth 100000 in
theorem ix0 (a b c d e f g h i j k l m n o p : Value) (w : World) : (Instr.index 139 (.agg #[a, b, c, d, e, f, g, h, i, j, k, l, m, n, o, p]) (.int .i64 0)).run Try.prog w = .ok (.agg #[a, b, c, d, e, f, g, h]) w := by rfl
set_option maxRecDepth 100000 in
theorem ix1 (a b c d e f g h i j k l m n o p : Value) (w : World) : (Instr.index 139 (.agg #[a, b, c, d, e, f, g, h, i, j, k, l, m, n, o, p]) (.int .i64 1)).run Try.prog w = .ok (.agg #[i, j, k, l, m, n, o, p]) w := by rfl
set_option maxRecDepth 100000 in
theorem iy0 (a b c d : Value) (w : World) : (Instr.index 54 (.agg #[a, b, c, d]) (.int .i64 0)).run Try.prog w = .ok (.agg #[a, b]) w := by rfl
set_option maxRecDepth 100000 in
theorem iy1 (a b c d : Value) (w : World) : (Instr.index 54 (.agg #[a, b, c, d]) (.int .i64 1)).run Try.prog w = .ok (.agg #[c, d]) w := by rfl
theorem map_since {P : Program} {k : TypeId} {R : Value → Option (DataW Unit × List MemPlace)} {b n : Nat} {D : DataW Unit} {w w' : World} (h : w.ownsMap P k R b n D) (s : Since w w') : w'.ownsMap P k R b n D := by
  have hlt := h.lt
  obtain ⟨es, clock, hb, r⟩ := h
  exact ⟨es, clock, by rw [s.below.block b hlt]; exact hb, r⟩
/-- The map holds these points. -/
def MapOf (w : World) (b n : Nat) (L : List (Int × Int)) : Prop := w.ownsMap Try.prog 34 (unitElem (H := Unit)) b n (setOf (.agg []) (kL L))
theorem map_made (w : World) (b : Nat) (hb : b = w.heap.size) : MapOf (w.alloc (.map #[] 0)) b 0 [] := by
  subst hb
  exact World.ownsMap_made _ _ _ _
theorem MapOf.since {w w' : World} {b n : Nat} {L : List (Int × Int)} (h : MapOf w b n L) (s : Since w w') : MapOf w' b n L := map_since h s
/-- A pair of lines in memory. -/
def Xf (s t : Ln) (j : Nat) : Value := if j < 4 then Lf s j else Lf t (j - 4)
theorem xrow (w : World) (b : Nat) (hb : b = w.heap.size) (ty : TypeId) (s t : Ln) : Row (w.alloc (.cells #[.int .i64 s.ax, .int .i64 s.ay, .int .i64 s.bx, .int .i64 s.bz, .int .i64 t.ax, .int .i64 t.ay, .int .i64 t.bx, .int .i64 t.bz] ty)) b 8 (Xf s t) := by
  subst hb
  refine Row.of_cells fun j hj => ?_
  have h : j = 0 ∨ j = 1 ∨ j = 2 ∨ j = 3 ∨ j = 4 ∨ j = 5 ∨ j = 6 ∨ j = 7 := by omega
  rcases h with rfl | rfl | rfl | rfl | rfl | rfl | rfl | rfl <;> rfl
theorem xcells {w : World} {b : Nat} {s t : Ln} (h : Row w b 8 (Xf s t)) : w.cell? ⟨b, 4, none⟩ = some (.int .i64 t.ax) ∧ w.cell? ⟨b, 5, none⟩ = some (.int .i64 t.ay) ∧ w.cell? ⟨b, 6, none⟩ = some (.int .i64 t.bx) ∧ w.cell? ⟨b, 7, none⟩ = some (.int .i64 t.bz) ∧ b < w.heap.size := ⟨h.1 4 (by omega), h.1 5 (by omega), h.1 6 (by omega), h.1 7 (by omega), h.2.2⟩
theorem zero97 (w : World) : (zeroValue 101).run Try.prog w = .ok (.agg #[]) w := by kernel_rfl
theorem wf_good {x y : Int} (h : goodB x y = true) : (Lit.int .i64 x).wf = true ∧ (Lit.int .i64 y).wf = true := by
  have := goodB_iff.1 h
  exact ⟨wf_of64 (by unfold In64; omega), wf_of64 (by unfold In64; omega)⟩
theorem kL_snoc (L : List (Int × Int)) (x y : Int) : setOf (H := Unit) (.agg []) (kL (L ++ [(x, y)])) = (setOf (.agg []) (kL L)).put (kP x y) (.agg []) := by
  unfold kL
  rw [List.map_append, List.map_singleton, setOf_snoc]
theorem wfl_pts (b : Bool) {x y : Int} (h : goodB x y = true) : WfL (pts b x y) := by
  intro e he
  cases b
  · cases he
  · obtain rfl : e = (x, y) := by simpa [pts] using he
    exact wf_good h
theorem wfl_nil : WfL [] := fun _ h => by cases h
theorem WfL.app {L M : List (Int × Int)} (h : WfL L) (k : WfL M) : WfL (L ++ M) := fun e he => by
  rcases List.mem_append.1 he with he | he
  · exact h e he
  · exact k e he
theorem inw_wf {x : Int} (h : (Lit.int .i64 x).wf = true) : InW x := by
  have h : -9223372036854775808 ≤ x ∧ x ≤ 9223372036854775807 := by simpa [Lit.wf, IntKind.min, IntKind.max, IntKind.signed, IntKind.bits] using h
  unfold InW
  omega
theorem invK (key : Value) (kl : Lit) (h : keyOf Try.prog 34 key = some kl) : ∃ x : Int × Int, key = Pt x.1 x.2 := by
  obtain ⟨x, y, h, _⟩ := keyOf_pt_inv h
  exact ⟨(x, y), h⟩
theorem invV (v : Value) (y : DataW Unit × List MemPlace) (h : unitElem v = some y) : ∃ c : Unit, v = (fun _ => Value.agg #[]) c := ⟨(), (unitElem_inv h).1⟩
theorem mem_of_left {L : List (Int × Int)} (hL : WfL L) {x : Int × Int} {kl : Lit} (h : keyOf Try.prog 34 (Pt x.1 x.2) = some kl) (hl : Maps.has (setOf (H := Unit) (.agg []) (kL L)) kl = true) : x ∈ L := by
  obtain ⟨u, v, e, rfl, w1, w2⟩ := keyOf_pt_inv h
  unfold Pt at e
  obtain ⟨e1, e2⟩ : x.1 = u ∧ x.2 = v := by simpa using e
  subst e1 e2
  exact (has_kL hL w1 w2).1 hl
set_option maxRecDepth 100000 in
set_option maxHeartbeats 16000000 in
theorem cr_touching_x (ax ay bx bz cx cy dx dz : Int) (o1 o2 o3 o4 : Bool) (hg1 : goodB ax ay = true) (hg2 : goodB bx bz = true) (hg3 : goodB cx cy = true) (hg4 : goodB dx dz = true)
    (ho1 : ∀ w, Calls Try.prog 105 #[.agg #[.int .i64 ax, .int .i64 ay], .agg #[.int .i64 cx, .int .i64 cy, .int .i64 dx, .int .i64 dz]] w fun e w' => e = .returned (.bool o1) ∧ Since w w')
    (ho2 : ∀ w, Calls Try.prog 105 #[.agg #[.int .i64 bx, .int .i64 bz], .agg #[.int .i64 cx, .int .i64 cy, .int .i64 dx, .int .i64 dz]] w fun e w' => e = .returned (.bool o2) ∧ Since w w')
    (ho3 : ∀ w, Calls Try.prog 105 #[.agg #[.int .i64 cx, .int .i64 cy], .agg #[.int .i64 ax, .int .i64 ay, .int .i64 bx, .int .i64 bz]] w fun e w' => e = .returned (.bool o3) ∧ Since w w')
    (ho4 : ∀ w, Calls Try.prog 105 #[.agg #[.int .i64 dx, .int .i64 dz], .agg #[.int .i64 ax, .int .i64 ay, .int .i64 bx, .int .i64 bz]] w fun e w' => e = .returned (.bool o4) ∧ Since w w')
    (RV : Value) (hres : (touchOf (pts o1 ax ay ++ pts o2 bx bz ++ pts o3 cx cy ++ pts o4 dx dz)).v = RV) (w : World) :
    Calls Try.prog 96 #[.agg #[.int .i64 ax, .int .i64 ay, .int .i64 bx, .int .i64 bz], .agg #[.int .i64 cx, .int .i64 cy, .int .i64 dx, .int .i64 dz]] w fun e w' => e = .returned RV ∧ Since w w' := by
  have hmm := @run_makeMap Try.prog
  have hi0 := ix0
  have hi1 := ix1
  have hj0 := iy0
  have hj1 := iy1
  have HRES := Lib.hid hres
  have HO1 := Lib.hid ho1
  have HO2 := Lib.hid ho2
  have HO3 := Lib.hid ho3
  have HO4 := Lib.hid ho4
  have HK1 := Lib.hid (keyOf_pt (wf_good hg1).1 (wf_good hg1).2)
  have HK2 := Lib.hid (keyOf_pt (wf_good hg2).1 (wf_good hg2).2)
  have HK3 := Lib.hid (keyOf_pt (wf_good hg3).1 (wf_good hg3).2)
  have HK4 := Lib.hid (keyOf_pt (wf_good hg4).1 (wf_good hg4).2)
  have HG1 := Lib.hid hg1
  have HG2 := Lib.hid hg2
  have HG3 := Lib.hid hg3
  have HG4 := Lib.hid hg4
  have HX1 := Lib.hid (fun w b hb ty => xrow w b hb ty ⟨ax, ay, bx, bz⟩ ⟨cx, cy, dx, dz⟩)
  have HX2 := Lib.hid (fun w b hb ty => xrow w b hb ty ⟨cx, cy, dx, dz⟩ ⟨ax, ay, bx, bz⟩)
  clear hres ho1 ho2 ho3 ho4 hg1 hg2 hg3 hg4
  go_enter Try.func96, Try.ntmps96
  go_wp2
  refine wp_named fun w0 hw0 => ?_
  have hM : MapOf w0 (w.heap.size + 1 + 1 + 1) 0 [] := by subst hw0; exact map_made _ _ (by simp)
  have hS : Since w w0 := by subst hw0; (repeat (first | with_reducible (exact Since.refl _) | with_reducible assumption | with_reducible (refine Since.drew ?_) | with_reducible (refine Since.drewN ?_ _) | with_reducible (refine Since.alloc ?_ _) | (with_reducible (refine Since.setCell ?_ ?_ _); rotate_left; focus (first | (simp; done) | (simp; omega) | omega)) | (with_reducible (refine Since.trans ?_ (by with_reducible assumption)))))
  have rR : Row w0 (w.heap.size + 1 + 1) 6 (Cf cpNone) := by subst hw0; exact (crow0 _ _ (by simp) _).alloc _
  have hz : w.heap.size + 4 ≤ w0.heap.size := by subst hw0; simp
  clear hw0
  refine wp_loop_rounds 3 ?_
  rw [rounds_succ]
  go_wp2_with fail
  refine wp_loop_rounds 3 ?_
  rw [rounds_succ]
  go_upto_block 3 with fail
  go_cut [] (fun wx => ∃ n : Nat, n ≤ 1 ∧ MapOf wx (w.heap.size + 1 + 1 + 1) n ([] ++ pts o1 ax ay) ∧ Since w wx ∧ Row wx (w.heap.size + 1 + 1) 6 (Cf cpNone) ∧ w.heap.size + 4 ≤ wx.heap.size ∧ Row wx (w0.heap.size) 8 (Xf ⟨ax, ay, bx, bz⟩ ⟨cx, cy, dx, dz⟩))
  case first =>
    have hb0 : w.heap.size + 1 + 1 ≠ w.heap.size + 1 + 1 + 1 := by omega
    have hb1 : w0.heap.size ≠ w.heap.size + 1 + 1 + 1 := by omega
    cases o1
    · go_wp2_with (go_at_call 105; (with_reducible refine (HO1.out _).mono ?_); rintro e w1 ⟨rfl, hS1⟩; have rX := ((HX1.out w0 _ rfl _).alloc _).since hS1; have hT1 : Since w0 w1 := (by (repeat (first | with_reducible (exact Since.refl _) | with_reducible assumption | with_reducible (refine Since.drew ?_) | with_reducible (refine Since.drewN ?_ _) | with_reducible (refine Since.alloc ?_ _) | (with_reducible (refine Since.setCell ?_ ?_ _); rotate_left; focus (first | (simp; done) | (simp; omega) | omega)) | (with_reducible (refine Since.trans ?_ (by with_reducible assumption)))))); have hM := hM.since hT1; have hS := hS.trans hT1; have rR := rR.since hT1; have hz := Nat.le_trans hz hT1.below.size; clear hT1 hS1)
      go_meet
      case rel => exact ⟨_, Nat.zero_le _, by rw [show [] ++ pts false ax ay = [] ++ [] by rfl, List.append_nil]; exact hM, hS, rR, hz, rX⟩
    · go_wp2_with (first | (go_at_call 105; (with_reducible refine (HO1.out _).mono ?_); rintro e w1 ⟨rfl, hS1⟩; have rX := ((HX1.out w0 _ rfl _).alloc _).since hS1; have hE := (prow _ (w0.heap.size + 1) (by simp) _ ax ay).since hS1; obtain ⟨e1, e2, e3⟩ := pcells hE; clear hE; have hT1 : Since w0 w1 := (by (repeat (first | with_reducible (exact Since.refl _) | with_reducible assumption | with_reducible (refine Since.drew ?_) | with_reducible (refine Since.drewN ?_ _) | with_reducible (refine Since.alloc ?_ _) | (with_reducible (refine Since.setCell ?_ ?_ _); rotate_left; focus (first | (simp; done) | (simp; omega) | omega)) | (with_reducible (refine Since.trans ?_ (by with_reducible assumption)))))); have hM := hM.since hT1; have hS := hS.trans hT1; have rR := rR.since hT1; have hz := Nat.le_trans hz hT1.below.size; clear hT1 hS1) | (at_mapUpdate; refine wpList_mapUpdate_own _ rfl _ _ _ 100 rfl 34 101 lawPt Try.underlying100 (unitElem (H := Unit)) (w.heap.size + 1 + 1 + 1) 0 _ rfl hM (by unfold maxLen; omega) _ _ _ rfl rfl (HK1.out) _ [] unitElem_mk ?_; intro v1 hown hgr))
      go_meet
      case rel => exact ⟨_, Nat.le_refl _, by show World.ownsMap _ _ _ _ _ _ (setOf (.agg []) (kL ([] ++ [(ax, ay)]))); rw [kL_snoc]; exact hown, since_grown hS hgr (fun k hk => by injection hk with hk; omega), rR.grown hgr hb0, Nat.le_trans hz hgr.size, rX.grown hgr hb1⟩
  obtain ⟨n, hn, hM, hS, rR, hz, rX⟩ := hcut
  obtain ⟨x1, x2, x3, x4, x5⟩ := xcells rX
  go_wp2_with fail
  rw [rounds_succ]
  go_upto_block 3 with fail
  go_cut [] (fun wx => ∃ n : Nat, n ≤ 2 ∧ MapOf wx (w.heap.size + 1 + 1 + 1) n ([] ++ pts o1 ax ay ++ pts o2 bx bz) ∧ Since w wx ∧ Row wx (w.heap.size + 1 + 1) 6 (Cf cpNone) ∧ w.heap.size + 4 ≤ wx.heap.size ∧ Row wx (w0.heap.size) 8 (Xf ⟨ax, ay, bx, bz⟩ ⟨cx, cy, dx, dz⟩))
  case first =>
    have hb0 : w.heap.size + 1 + 1 ≠ w.heap.size + 1 + 1 + 1 := by omega
    have hb1 : w0.heap.size ≠ w.heap.size + 1 + 1 + 1 := by omega
    cases o2
    · go_wp2_with (go_at_call 105; (with_reducible refine (HO2.out _).mono ?_); rintro e w2 ⟨rfl, hS2⟩; have rX := (rX.alloc _).since hS2; have hT2 : Since wc w2 := (by (repeat (first | with_reducible (exact Since.refl _) | with_reducible assumption | with_reducible (refine Since.drew ?_) | with_reducible (refine Since.drewN ?_ _) | with_reducible (refine Since.alloc ?_ _) | (with_reducible (refine Since.setCell ?_ ?_ _); rotate_left; focus (first | (simp; done) | (simp; omega) | omega)) | (with_reducible (refine Since.trans ?_ (by with_reducible assumption)))))); have hM := hM.since hT2; have hS := hS.trans hT2; have rR := rR.since hT2; have hz := Nat.le_trans hz hT2.below.size; clear hT2 hS2)
      go_meet
      case rel => exact ⟨_, Nat.le_succ_of_le hn, by rw [show [] ++ pts o1 ax ay ++ pts false bx bz = [] ++ pts o1 ax ay ++ [] by rfl, List.append_nil]; exact hM, hS, rR, hz, rX⟩
    · go_wp2_with (first | (go_at_call 105; (with_reducible refine (HO2.out _).mono ?_); rintro e w2 ⟨rfl, hS2⟩; have rX := (rX.alloc _).since hS2; have hE := (prow _ wc.heap.size rfl _ bx bz).since hS2; obtain ⟨e1, e2, e3⟩ := pcells hE; clear hE; have hT2 : Since wc w2 := (by (repeat (first | with_reducible (exact Since.refl _) | with_reducible assumption | with_reducible (refine Since.drew ?_) | with_reducible (refine Since.drewN ?_ _) | with_reducible (refine Since.alloc ?_ _) | (with_reducible (refine Since.setCell ?_ ?_ _); rotate_left; focus (first | (simp; done) | (simp; omega) | omega)) | (with_reducible (refine Since.trans ?_ (by with_reducible assumption)))))); have hM := hM.since hT2; have hS := hS.trans hT2; have rR := rR.since hT2; have hz := Nat.le_trans hz hT2.below.size; clear hT2 hS2) | (at_mapUpdate; refine wpList_mapUpdate_own _ rfl _ _ _ 100 rfl 34 101 lawPt Try.underlying100 (unitElem (H := Unit)) (w.heap.size + 1 + 1 + 1) n _ rfl hM (by unfold maxLen; omega) _ _ _ rfl rfl (HK2.out) _ [] unitElem_mk ?_; intro v2 hown hgr))
      go_meet
      case rel => exact ⟨_, Nat.succ_le_succ hn, by show World.ownsMap _ _ _ _ _ _ (setOf (.agg []) (kL ([] ++ pts o1 ax ay ++ [(bx, bz)]))); rw [kL_snoc]; exact hown, since_grown hS hgr (fun k hk => by injection hk with hk; omega), rR.grown hgr hb0, Nat.le_trans hz hgr.size, rX.grown hgr hb1⟩
  obtain ⟨n, hn, hM, hS, rR, hz, rX⟩ := hcut
  clear rX
  go_wp2_with fail
  rw [rounds_succ]
  go_wp2_with fail
  rw [rounds_succ]
  go_wp2_with fail
  refine wp_named fun wn hwn => ?_
  have rX : Row wn wc.heap.size 8 (Xf ⟨cx, cy, dx, dz⟩ ⟨ax, ay, bx, bz⟩) := by subst hwn; exact HX2.out wc _ rfl _
  have hT : Since wc wn := by subst hwn; (repeat (first | with_reducible (exact Since.refl _) | with_reducible assumption | with_reducible (refine Since.drew ?_) | with_reducible (refine Since.drewN ?_ _) | with_reducible (refine Since.alloc ?_ _) | (with_reducible (refine Since.setCell ?_ ?_ _); rotate_left; focus (first | (simp; done) | (simp; omega) | omega)) | (with_reducible (refine Since.trans ?_ (by with_reducible assumption)))))
  have hM := hM.since hT
  have hS := hS.trans hT
  have rR := rR.since hT
  have hz9 := Nat.le_trans hz hT.below.size
  clear hT hwn
  generalize wc.heap.size = xb at *
  obtain ⟨x1, x2, x3, x4, x5⟩ := xcells rX
  refine wp_loop_rounds 3 ?_
  rw [rounds_succ]
  go_upto_block 3 with fail
  go_cut [] (fun wx => ∃ n : Nat, n ≤ 3 ∧ MapOf wx (w.heap.size + 1 + 1 + 1) n ([] ++ pts o1 ax ay ++ pts o2 bx bz ++ pts o3 cx cy) ∧ Since w wx ∧ Row wx (w.heap.size + 1 + 1) 6 (Cf cpNone) ∧ w.heap.size + 4 ≤ wx.heap.size ∧ Row wx (xb) 8 (Xf ⟨cx, cy, dx, dz⟩ ⟨ax, ay, bx, bz⟩))
  case first =>
    have hb0 : w.heap.size + 1 + 1 ≠ w.heap.size + 1 + 1 + 1 := by omega
    have hb1 : xb ≠ w.heap.size + 1 + 1 + 1 := by omega
    cases o3
    · go_wp2_with (go_at_call 105; (with_reducible refine (HO3.out _).mono ?_); rintro e w3 ⟨rfl, hS3⟩; have rX := (rX.alloc _).since hS3; have hT3 : Since wn w3 := (by (repeat (first | with_reducible (exact Since.refl _) | with_reducible assumption | with_reducible (refine Since.drew ?_) | with_reducible (refine Since.drewN ?_ _) | with_reducible (refine Since.alloc ?_ _) | (with_reducible (refine Since.setCell ?_ ?_ _); rotate_left; focus (first | (simp; done) | (simp; omega) | omega)) | (with_reducible (refine Since.trans ?_ (by with_reducible assumption)))))); have hM := hM.since hT3; have hS := hS.trans hT3; have rR := rR.since hT3; have hz := Nat.le_trans hz9 hT3.below.size; clear hT3 hS3)
      go_meet
      case rel => exact ⟨_, Nat.le_succ_of_le hn, by rw [show [] ++ pts o1 ax ay ++ pts o2 bx bz ++ pts false cx cy = [] ++ pts o1 ax ay ++ pts o2 bx bz ++ [] by rfl, List.append_nil]; exact hM, hS, rR, hz, rX⟩
    · go_wp2_with (first | (go_at_call 105; (with_reducible refine (HO3.out _).mono ?_); rintro e w3 ⟨rfl, hS3⟩; have rX := (rX.alloc _).since hS3; have hE := (prow _ wn.heap.size rfl _ cx cy).since hS3; obtain ⟨e1, e2, e3⟩ := pcells hE; clear hE; have hT3 : Since wn w3 := (by (repeat (first | with_reducible (exact Since.refl _) | with_reducible assumption | with_reducible (refine Since.drew ?_) | with_reducible (refine Since.drewN ?_ _) | with_reducible (refine Since.alloc ?_ _) | (with_reducible (refine Since.setCell ?_ ?_ _); rotate_left; focus (first | (simp; done) | (simp; omega) | omega)) | (with_reducible (refine Since.trans ?_ (by with_reducible assumption)))))); have hM := hM.since hT3; have hS := hS.trans hT3; have rR := rR.since hT3; have hz := Nat.le_trans hz9 hT3.below.size; clear hT3 hS3) | (at_mapUpdate; refine wpList_mapUpdate_own _ rfl _ _ _ 100 rfl 34 101 lawPt Try.underlying100 (unitElem (H := Unit)) (w.heap.size + 1 + 1 + 1) n _ rfl hM (by unfold maxLen; omega) _ _ _ rfl rfl (HK3.out) _ [] unitElem_mk ?_; intro v3 hown hgr))
      go_meet
      case rel => exact ⟨_, Nat.succ_le_succ hn, by show World.ownsMap _ _ _ _ _ _ (setOf (.agg []) (kL ([] ++ pts o1 ax ay ++ pts o2 bx bz ++ [(cx, cy)]))); rw [kL_snoc]; exact hown, since_grown hS hgr (fun k hk => by injection hk with hk; omega), rR.grown hgr hb0, Nat.le_trans hz hgr.size, rX.grown hgr hb1⟩
  obtain ⟨n, hn, hM, hS, rR, hz, rX⟩ := hcut
  obtain ⟨x1, x2, x3, x4, x5⟩ := xcells rX
  go_wp2_with fail
  rw [rounds_succ]
  go_upto_block 3 with fail
  go_cut [] (fun wx => ∃ n : Nat, n ≤ 4 ∧ MapOf wx (w.heap.size + 1 + 1 + 1) n ([] ++ pts o1 ax ay ++ pts o2 bx bz ++ pts o3 cx cy ++ pts o4 dx dz) ∧ Since w wx ∧ Row wx (w.heap.size + 1 + 1) 6 (Cf cpNone) ∧ w.heap.size + 4 ≤ wx.heap.size ∧ Row wx (xb) 8 (Xf ⟨cx, cy, dx, dz⟩ ⟨ax, ay, bx, bz⟩))
  case first =>
    have hb0 : w.heap.size + 1 + 1 ≠ w.heap.size + 1 + 1 + 1 := by omega
    have hb1 : xb ≠ w.heap.size + 1 + 1 + 1 := by omega
    cases o4
    · go_wp2_with (go_at_call 105; (with_reducible refine (HO4.out _).mono ?_); rintro e w4 ⟨rfl, hS4⟩; have rX := (rX.alloc _).since hS4; have hT4 : Since wc w4 := (by (repeat (first | with_reducible (exact Since.refl _) | with_reducible assumption | with_reducible (refine Since.drew ?_) | with_reducible (refine Since.drewN ?_ _) | with_reducible (refine Since.alloc ?_ _) | (with_reducible (refine Since.setCell ?_ ?_ _); rotate_left; focus (first | (simp; done) | (simp; omega) | omega)) | (with_reducible (refine Since.trans ?_ (by with_reducible assumption)))))); have hM := hM.since hT4; have hS := hS.trans hT4; have rR := rR.since hT4; have hz := Nat.le_trans hz hT4.below.size; clear hT4 hS4)
      go_meet
      case rel => exact ⟨_, Nat.le_succ_of_le hn, by rw [show [] ++ pts o1 ax ay ++ pts o2 bx bz ++ pts o3 cx cy ++ pts false dx dz = [] ++ pts o1 ax ay ++ pts o2 bx bz ++ pts o3 cx cy ++ [] by rfl, List.append_nil]; exact hM, hS, rR, hz, rX⟩
    · go_wp2_with (first | (go_at_call 105; (with_reducible refine (HO4.out _).mono ?_); rintro e w4 ⟨rfl, hS4⟩; have rX := (rX.alloc _).since hS4; have hE := (prow _ wc.heap.size rfl _ dx dz).since hS4; obtain ⟨e1, e2, e3⟩ := pcells hE; clear hE; have hT4 : Since wc w4 := (by (repeat (first | with_reducible (exact Since.refl _) | with_reducible assumption | with_reducible (refine Since.drew ?_) | with_reducible (refine Since.drewN ?_ _) | with_reducible (refine Since.alloc ?_ _) | (with_reducible (refine Since.setCell ?_ ?_ _); rotate_left; focus (first | (simp; done) | (simp; omega) | omega)) | (with_reducible (refine Since.trans ?_ (by with_reducible assumption)))))); have hM := hM.since hT4; have hS := hS.trans hT4; have rR := rR.since hT4; have hz := Nat.le_trans hz hT4.below.size; clear hT4 hS4) | (at_mapUpdate; refine wpList_mapUpdate_own _ rfl _ _ _ 100 rfl 34 101 lawPt Try.underlying100 (unitElem (H := Unit)) (w.heap.size + 1 + 1 + 1) n _ rfl hM (by unfold maxLen; omega) _ _ _ rfl rfl (HK4.out) _ [] unitElem_mk ?_; intro v4 hown hgr))
      go_meet
      case rel => exact ⟨_, Nat.succ_le_succ hn, by show World.ownsMap _ _ _ _ _ _ (setOf (.agg []) (kL ([] ++ pts o1 ax ay ++ pts o2 bx bz ++ pts o3 cx cy ++ [(dx, dz)]))); rw [kL_snoc]; exact hown, since_grown hS hgr (fun k hk => by injection hk with hk; omega), rR.grown hgr hb0, Nat.le_trans hz hgr.size, rX.grown hgr hb1⟩
  obtain ⟨n, hn, hM, hS, rR, hz, rX⟩ := hcut
  have hW : WfL ([] ++ pts o1 ax ay ++ pts o2 bx bz ++ pts o3 cx cy ++ pts o4 dx dz) := (((wfl_nil.app (wfl_pts o1 HG1.out)).app (wfl_pts o2 HG2.out)).app (wfl_pts o3 HG3.out)).app (wfl_pts o4 HG4.out)
  have HR2 : Hid ((touchOf ([] ++ pts o1 ax ay ++ pts o2 bx bz ++ pts o3 cx cy ++ pts o4 dx dz)).v = RV) := Lib.hid (by rw [List.nil_append]; exact HRES.out)
  generalize [] ++ pts o1 ax ay ++ pts o2 bx bz ++ pts o3 cx cy ++ pts o4 dx dz = LL at *
  clear rX hi0 hi1 hj0 hj1 HO1 HO2 HO3 HO4 HK1 HK2 HK3 HK4 HG1 HG2 HG3 HG4 HX1 HX2 HRES
  have HW := Lib.hid hW
  clear hW
  obtain ⟨r1, r2, r3, r4, r5, r6, r7⟩ := ccells rR
  have rF := rR.2.1
  have f0 := rF 0; have f1 := rF 1; have f2 := rF 2; have f3 := rF 3; have f4 := rF 4; have f5 := rF 5
  unfold cpNone at r1 r2 r3 r4 r5 r6
  simp only at r1 r2 r3 r4 r5 r6
  clear rF
  go_wp2_with fail
  rw [rounds_succ]
  go_wp2_with fail
  rw [rounds_succ]
  by_cases h2 : 2 ≤ Maps.size (setOf (H := Unit) (.agg []) (kL LL))
  · have hd : decide ((1 : Int) < (Maps.size (setOf (H := Unit) (.agg []) (kL LL)) : Int)) = true := by simp; omega
    go_wp2_with (first | (at_len; refine wpList_len_own _ rfl _ 100 rfl 34 101 Try.underlying100 (unitElem (H := Unit)) (w.heap.size + 1 + 1 + 1) n _ rfl hM ?_))
    obtain ⟨m, hm⟩ : ∃ m, m = Maps.size (setOf (H := Unit) (.agg []) (kL LL)) := ⟨_, rfl⟩
    have hno : touchOf LL = ⟨2, 0, 0, 0⟩ := by
      rcases touch_cases LL with ⟨e, _⟩ | ⟨e, he, e1⟩ | e
      · rw [e] at h2; rw [size_nil] at h2; omega
      · by_cases hall : ∀ x ∈ LL, x = e
        · rw [size_one HW.out he hall] at h2; omega
        · obtain ⟨z, hz1⟩ := Classical.not_forall.1 hall
          obtain ⟨hz1, hz2⟩ := Classical.not_imp.1 hz1
          exact touch_two hz1 he hz2
      · exact e
    refine ret_agg (P := Try.prog) Try.results96 rfl (cp_range (cput rR ⟨2, 0, 0, 0⟩)) Try.underlying104 rfl (by kernel_rfl) rfl ⟨by rw [← HR2.out, hno]; rfl, ?_⟩
    (repeat (first | with_reducible (exact Since.refl _) | with_reducible assumption | with_reducible (refine Since.drew ?_) | with_reducible (refine Since.drewN ?_ _) | with_reducible (refine Since.alloc ?_ _) | (with_reducible (refine Since.setCell ?_ ?_ _); rotate_left; focus (first | (simp; done) | (simp; omega) | omega)) | (with_reducible (refine Since.trans ?_ (by with_reducible assumption)))))
  · have hd : decide ((1 : Int) < (Maps.size (setOf (H := Unit) (.agg []) (kL LL)) : Int)) = false := by simp; omega
    have hone : ∀ x ∈ LL, ∀ y ∈ LL, x = y := fun x hx y hy => by
      by_cases e : x = y
      · exact e
      · exact absurd (size_two (u := .agg []) HW.out hx hy e) h2
    have HONE := Lib.hid hone
    clear hone h2
    go_wp2_with (first | (at_len; refine wpList_len_own _ rfl _ 100 rfl 34 101 Try.underlying100 (unitElem (H := Unit)) (w.heap.size + 1 + 1 + 1) n _ rfl hM ?_) | (at_range; refine wpList_range_own _ rfl _ 100 rfl 34 101 lawPt Try.underlying100 (unitElem (H := Unit)) (w.heap.size + 1 + 1 + 1) n _ rfl hM ?_; intro v9 hrg hgr9 hsz9))
    go_frame
    have hT9 : Since wc v9 := since_grown (Since.refl _) hgr9 (fun k hk => by cases hk)
    have rR := rR.since hT9
    have hS := hS.trans hT9
    have hrb : w.heap.size + 4 ≤ wc.heap.size := hz
    have hz := Nat.le_trans hz hT9.below.size
    clear hT9 hgr9 hsz9 hM r1 r2 r3 r4 r5 r6 r7 f0 f1 f2 f3 f4 f5
    refine wp_loop_rounds 2 ?_
    rw [rounds_succ]
    go_wp2_with (first | (at_next; refine wpList_next_ranges _ rfl _ rfl 34 lawPt (unitElem (H := Unit)) (fun x : Int × Int => Pt x.1 x.2) (fun _ : Unit => .agg #[]) invK invV (w.heap.size + 1 + 1 + 1) wc.heap.size n _ _ _ rfl hrg ?_ ?_))
    · intro hc0 hl0
      have hnil : LL = [] := by
        cases LL with
        | nil => rfl
        | cons a r =>
          have h1 := hl0 (kP a.1 a.2)
          rw [(has_kL HW.out (HW.out a (by simp)).1 (HW.out a (by simp)).2).2 (by simp)] at h1
          cases h1
      have hRV : RV = cpNone.v := by rw [← HR2.out, hnil]; rfl
      have HRV := Lib.hid hRV
      clear hRV hnil hl0 hc0 hrg HR2 HONE HW
      obtain ⟨r1, r2, r3, r4, r5, r6, r7⟩ := ccells rR
      have rF := rR.2.1
      have f0 := rF 0; have f1 := rF 1; have f2 := rF 2; have f3 := rF 3; have f4 := rF 4; have f5 := rF 5
      clear rF
      go_wp2
      refine ret_agg (P := Try.prog) Try.results96 rfl (cp_range (cput rR cpNone)) Try.underlying104 rfl (by kernel_rfl) rfl ⟨by rw [HRV.out]; rfl, ?_⟩
      (repeat (first | with_reducible (exact Since.refl _) | with_reducible assumption | with_reducible (refine Since.drew ?_) | with_reducible (refine Since.drewN ?_ _) | with_reducible (refine Since.alloc ?_ _) | (with_reducible (refine Since.setCell ?_ ?_ _); rotate_left; focus (first | (simp; done) | (simp; omega) | omega)) | (with_reducible (refine Since.trans ?_ (by with_reducible assumption)))))
    · intro px py kl y1 y2 w5 cnt5 hkey hlk hv hat hrg5 hlt hgr5 hsz5 hen
      have hx := mem_of_left (x := (px, py)) HW.out hkey hlk
      have hwx := HW.out (px, py) hx
      have hRV : RV = (⟨1, px, py, 1⟩ : Cp).v := by rw [← HR2.out, touch_one hx (fun z hz => HONE.out z hz (px, py) hx)]
      have HRV := Lib.hid hRV
      have i1 := inw_wf hwx.1
      have i2 := inw_wf hwx.2
      clear hRV hkey hlk hv hat hlt hx hwx HW HONE HR2 hrg hrg5
      simp only at i1 i2
      unfold Pt at hen
      have hof1 := Lib.hid (fun w => wide_of px i1 w)
      have hof2 := Lib.hid (fun w => wide_of py i2 w)
      clear i1 i2
      have rR := rR.grown hgr5 (by omega)
      have hS := since_grown hS hgr5 (fun k hk => by injection hk with hk; omega)
      have hz := Nat.le_trans hz hgr5.size
      clear hgr5 hsz5
      go_wp2_with fail
      refine wp_named fun w6 hw6 => ?_
      have rP : Row w6 w5.heap.size 2 (Pf px py) := by subst hw6; exact prow _ _ rfl _ _ _
      have rR : Row w6 (w.heap.size + 1 + 1) 6 (Cf cpNone) := by subst hw6; exact rR.alloc _
      have hS0 : Since w w6 := by subst hw6; exact hS.alloc _
      clear hw6 hS
      obtain ⟨r1, r2, r3, r4, r5, r6, r7⟩ := ccells rR
      obtain ⟨p1, p2, p3⟩ := pcells rP
      have rF := rR.2.1
      have f0 := rF 0; have f1 := rF 1; have f2 := rF 2; have f3 := rF 3; have f4 := rF 4; have f5 := rF 5
      clear rF rP rR
      have e1 : w5.heap.size ≠ w.heap.size + 1 + 1 := by omega
      have tok8 : True := trivial
      have tok9 : True := trivial
      (refine wp_named fun wr1 hwr1 => ?_; go_region_held3 (fun w' => (∀ b o, b < wr1.heap.size → b ≠ (w.heap.size + 1 + 1) → w'.cell? ⟨b, o, none⟩ = wr1.cell? ⟨b, o, none⟩) ∧ (∀ b o, b < wr1.heap.size → w'.frozen? ⟨b, o, none⟩ = wr1.frozen? ⟨b, o, none⟩) ∧ (∀ k, k < wr1.heap.size → k < w'.heap.size) ∧ Since w w' ∧ (∀ o, o < 6 → w'.cell? ⟨(w.heap.size + 1 + 1), o, none⟩ = some (cellD w' ((w.heap.size + 1 + 1)) o))) ((subst hwr1; (repeat with_reducible (refine sx_set (by omega) ?_ _ _)); first | with_reducible assumption | (refine sx_step (by first | assumption | omega | (simp; done) | (simp; omega)) (by with_reducible assumption) ?_; first | with_reducible assumption | (repeat (first | with_reducible (exact Since.refl _) | with_reducible assumption | with_reducible (refine Since.drew ?_) | with_reducible (refine Since.drewN ?_ _) | with_reducible (refine Since.alloc ?_ _) | (with_reducible (refine Since.setCell ?_ ?_ _); rotate_left; focus (first | (simp; done) | (simp; omega) | omega))))) | (refine sx_step (by first | assumption | omega | (simp; done) | (simp; omega)) (sx_start (by (repeat (first | with_reducible (exact Since.refl _) | with_reducible assumption | with_reducible (refine Since.drew ?_) | with_reducible (refine Since.drewN ?_ _) | with_reducible (refine Since.alloc ?_ _) | (with_reducible (refine Since.setCell ?_ ?_ _); rotate_left; focus (first | (simp; done) | (simp; omega) | omega)) | (with_reducible (refine Since.trans ?_ (by with_reducible assumption)))))) (fun o ho => by (have ho' : o = 0 ∨ o = 1 ∨ o = 2 ∨ o = 3 ∨ o = 4 ∨ o = 5 := by omega); rcases ho' with rfl | rfl | rfl | rfl | rfl | rfl <;> (first | (simp [go_sem]; done) | simp_all))) ?_; first | with_reducible assumption | (repeat (first | with_reducible (exact Since.refl _) | with_reducible assumption | with_reducible (refine Since.drew ?_) | with_reducible (refine Since.drewN ?_ _) | with_reducible (refine Since.alloc ?_ _) | (with_reducible (refine Since.setCell ?_ ?_ _); rotate_left; focus (first | (simp; done) | (simp; omega) | omega))))))) (first | (go_at_call 52; have _t := tok8; (with_reducible refine (hof1.out _).mono ?_); rintro e w8 ⟨rfl, hS8⟩; have hZ := hS8.below.size; (try simp at hZ); clear tok8) | (go_at_call 52; have _t := tok9; (with_reducible refine (hof2.out _).mono ?_); rintro e w9 ⟨rfl, hS9⟩; have hZ := hS9.below.size; (try simp at hZ); clear tok9)); all_goals (rename_i hHeld; obtain ⟨hcR1, hfR1, hzR1, hR1, hoR1⟩ := hHeld; have hiR := fun o ho => there_of (hoR1 o ho); (try simp only [there_set] at hiR); clear hoR1; subst hwr1))
      all_goals go_wp2
      all_goals refine ret_agg (P := Try.prog) Try.results96 rfl (cp_stored hiR ⟨1, px, py, 1⟩) Try.underlying104 rfl (by kernel_rfl) rfl ⟨by rw [HRV.out]; rfl, ?_⟩
      all_goals ((repeat (first | with_reducible (exact Since.refl _) | with_reducible assumption | with_reducible (refine Since.drew ?_) | with_reducible (refine Since.drewN ?_ _) | with_reducible (refine Since.alloc ?_ _) | (with_reducible (refine Since.setCell ?_ ?_ _); rotate_left; focus (first | (simp; done) | (simp; omega) | omega)) | (with_reducible (refine Since.trans ?_ (by with_reducible assumption))))))
end Go.Proofs.Ytckochcocflleaa

/-
  Layer 15: 'Meet', walked.
-/
namespace Go.Proofs.Ytckochcocflleaa
open Go.RowKit Go.Maps
set_option linter.unusedVariables false

theorem cr_touching (s t : Ln) (hs : lnG s = true) (ht : lnG t = true) (w : World) :
    Calls Try.prog 96 #[s.v, t.v] w fun e w' => e = .returned (touchOf (ends s t)).v ∧ Since w w' := by
  have k1 := Bool.and_eq_true_iff.1 hs
  have k2 := Bool.and_eq_true_iff.1 ht
  have q1 := goodB_iff.1 k1.1; have q2 := goodB_iff.1 k1.2; have q3 := goodB_iff.1 k2.1; have q4 := goodB_iff.1 k2.2
  have i1 : InP s.ax s.ay := by unfold InP In64; omega
  have i2 : InP s.bx s.bz := by unfold InP In64; omega
  have i3 : InP t.ax t.ay := by unfold InP In64; omega
  have i4 : InP t.bx t.bz := by unfold InP In64; omega
  exact cr_touching_x s.ax s.ay s.bx s.bz t.ax t.ay t.bx t.bz _ _ _ _ k1.1 k1.2 k2.1 k2.2 (fun w => cr_on _ _ t i1 ⟨i3, i4⟩ w) (fun w => cr_on _ _ t i2 ⟨i3, i4⟩ w) (fun w => cr_on _ _ s i3 ⟨i1, i2⟩ w) (fun w => cr_on _ _ s i4 ⟨i1, i2⟩ w) _ (by rw [ends_pts]) w
def four (a b c d : Int) (j : Nat) : Int := if j = 0 then a else if j = 1 then b else if j = 2 then c else d
theorem rdp_four (w : World) (b : Nat) (hb : b = w.heap.size) (x y u v p q m n : Int) (t : TypeId) : RdP (w.alloc (.cells #[.int .i64 x, .int .i64 y, .int .i64 u, .int .i64 v, .int .i64 p, .int .i64 q, .int .i64 m, .int .i64 n] t)) (w.alloc (.cells #[.int .i64 x, .int .i64 y, .int .i64 u, .int .i64 v, .int .i64 p, .int .i64 q, .int .i64 m, .int .i64 n] t)).heap.size (some ⟨b, 0, none⟩) 4 (four x u p m) (four y v q n) := fun _ => by
  subst hb
  refine ⟨w.heap.size, 0, rfl, by simp, fun j hj => ?_⟩
  have h : j = 0 ∨ j = 1 ∨ j = 2 ∨ j = 3 := by omega
  rcases h with rfl | rfl | rfl | rfl <;> exact ⟨by rw [World.cell?_alloc_new]; rfl, by rw [World.cell?_alloc_new]; rfl⟩
theorem good4 (w : World) (b : Nat) (hb : b = w.heap.size) (x y u v p q m n : Int) (t : TypeId) (h : InP x y) (h' : InP u v) (h'' : InP p q) (h3 : InP m n) : Calls Try.prog 59 #[.slice (some ⟨b, 0, none⟩) 4 4] (w.alloc (.cells #[.int .i64 x, .int .i64 y, .int .i64 u, .int .i64 v, .int .i64 p, .int .i64 q, .int .i64 m, .int .i64 n] t)) fun e w' => e = .returned (.bool ((goodB x y && goodB u v) && (goodB p q && goodB m n))) ∧ Since (w.alloc (.cells #[.int .i64 x, .int .i64 y, .int .i64 u, .int .i64 v, .int .i64 p, .int .i64 q, .int .i64 m, .int .i64 n] t)) w' := by
  have h := ga_good _ 4 4 _ _ _ (rdp_four w b hb x y u v p q m n t) (fun j hj => by unfold four; split; exact h; split; exact h'; split; exact h''; exact h3) (by decide)
  simpa [allG, four, Bool.and_assoc] using h
set_option maxRecDepth 100000 in
set_option maxHeartbeats 16000000 in
theorem meet_of (s t : Ln) (g a1 a2 : Bool) (vx vy ux uy c : Int) (X T R : Cp) (w : World)
    (hG : ∀ (w : World) (b : Nat), b = w.heap.size → ∀ ty, Calls Try.prog 59 #[.slice (some ⟨b, 0, none⟩) 4 4] (w.alloc (.cells #[.int .i64 s.ax, .int .i64 s.ay, .int .i64 s.bx, .int .i64 s.bz, .int .i64 t.ax, .int .i64 t.ay, .int .i64 t.bx, .int .i64 t.bz] ty)) fun e w' => e = .returned (.bool g) ∧ Since (w.alloc (.cells #[.int .i64 s.ax, .int .i64 s.ay, .int .i64 s.bx, .int .i64 s.bz, .int .i64 t.ax, .int .i64 t.ay, .int .i64 t.bx, .int .i64 t.bz] ty)) w')
    (hA1 : ∀ w, Calls Try.prog 92 #[.int .i64 s.ax, .int .i64 s.bx, .int .i64 t.ax, .int .i64 t.bx] w fun e w' => e = .returned (.bool a1) ∧ Since w w')
    (hA2 : ∀ w, Calls Try.prog 92 #[.int .i64 s.ay, .int .i64 s.bz, .int .i64 t.ay, .int .i64 t.bz] w fun e w' => e = .returned (.bool a2) ∧ Since w w')
    (hV1 : ∀ w, g = true → Calls Try.prog 94 #[Pt s.ax s.ay, Pt s.bx s.bz] w fun e w' => e = .returned (Pt vx vy) ∧ Since w w')
    (hV2 : ∀ w, g = true → Calls Try.prog 94 #[Pt t.ax t.ay, Pt t.bx t.bz] w fun e w' => e = .returned (Pt ux uy) ∧ Since w w')
    (hP : ∀ w, g = true → Calls Try.prog 93 #[Pt vx vy, Pt ux uy] w fun e w' => e = .returned (.int .i64 c) ∧ Since w w')
    (hX : ∀ w, g = true → c ≠ 0 → Calls Try.prog 95 #[s.v, t.v, .int .i64 c] w fun e w' => e = .returned X.v ∧ Since w w')
    (hT : ∀ w, g = true → Calls Try.prog 96 #[s.v, t.v] w fun e w' => e = .returned T.v ∧ Since w w')
    (hR : R = if g then (if a1 || a2 then cpNone else if c = 0 then T else X) else cpNone) :
    Calls Try.prog 66 #[s.v, t.v] w fun e w' => e = .returned (.tuple #[R.v, .int .i64 (if g then 0 else 6)]) ∧ Since w w' := by
  have hN1 := fun w b hb ty => lrow w b hb ty s
  have hN2 := fun w b hb ty => lrow w b hb ty t
  obtain ⟨ax, ay, bx, bz⟩ := s
  obtain ⟨cx, cy, dx, dz⟩ := t
  obtain ⟨x1, x2, x3, x4⟩ := X
  obtain ⟨t1, t2, t3, t4⟩ := T
  simp only at hN1 hN2 hG hA1 hA2 hV1 hV2
  have HN1 := Lib.hid hN1
  have HN2 := Lib.hid hN2
  unfold Ln.v Pt at *
  unfold Cp.v at hX hT
  simp only at hX hT
  have HG := Lib.hid hG
  have H1 := Lib.hid hA1
  have H2 := Lib.hid hA2
  clear hN1 hN2 hG hA1 hA2
  have HR := Lib.hid hR
  clear hR
  go_enter Try.func66, Try.ntmps66
  go_upto_region 1 with fail
  refine wp_named fun w0 hw0 => ?_
  have rA : Row w0 w.heap.size 4 (Lf ⟨ax, ay, bx, bz⟩) := by subst hw0; exact ((HN1.out w _ rfl _).alloc _).alloc _
  have rB : Row w0 (w.heap.size + 1) 4 (Lf ⟨cx, cy, dx, dz⟩) := by subst hw0; exact (HN2.out _ _ (by simp) _).alloc _
  have rR : Row w0 (w.heap.size + 1 + 1) 6 (Cf cpNone) := by subst hw0; exact crow0 _ _ (by simp) _
  have hS : Since w w0 := by subst hw0; (repeat (first | with_reducible (exact Since.refl _) | with_reducible assumption | with_reducible (refine Since.drew ?_) | with_reducible (refine Since.drewN ?_ _) | with_reducible (refine Since.alloc ?_ _) | (with_reducible (refine Since.setCell ?_ ?_ _); rotate_left; focus (first | (simp; done) | (simp; omega) | omega)) | (with_reducible (refine Since.trans ?_ (by with_reducible assumption)))))
  have hz : w.heap.size + 3 ≤ w0.heap.size := by subst hw0; simp
  clear hw0 HN1 HN2
  obtain ⟨l1, l2, l3, l4, l5⟩ := lcells rA
  obtain ⟨m1, m2, m3, m4, m5⟩ := lcells rB
  cases g
  · have hR : R = cpNone := HR.out
    clear HR
    subst hR
    clear hV1 hV2 hP hX hT H1 H2
    go_wp2_with (go_at_call 59; (with_reducible refine (HG.out _ _ (by rfl) _).mono ?_); rintro e w1 ⟨rfl, hS1⟩; have hT : Since w0 w1 := (by (repeat (first | with_reducible (exact Since.refl _) | with_reducible assumption | with_reducible (refine Since.drew ?_) | with_reducible (refine Since.drewN ?_ _) | with_reducible (refine Since.alloc ?_ _) | (with_reducible (refine Since.setCell ?_ ?_ _); rotate_left; focus (first | (simp; done) | (simp; omega) | omega)) | (with_reducible (refine Since.trans ?_ (by with_reducible assumption)))))); have rR := rR.since hT; have rA := rA.since hT; have rB := rB.since hT; have hS := hS.trans hT; clear hT hS1 l1 l2 l3 l4 l5 m1 m2 m3 m4 m5; obtain ⟨l1, l2, l3, l4, l5⟩ := lcells rA; obtain ⟨m1, m2, m3, m4, m5⟩ := lcells rB; obtain ⟨r1, r2, r3, r4, r5, r6, r7⟩ := ccells rR; have rF := rR.2.1; have f0 := rF 0; have f1 := rF 1; have f2 := rF 2; have f3 := rF 3; have f4 := rF 4; have f5 := rF 5; clear rF)
    refine ret_agg_tmp (P := Try.prog) Try.results66 rfl (cp_range (cput rR cpNone)) Try.underlying104 rfl (by kernel_rfl) rfl rfl ⟨rfl, ?_⟩
    (repeat (first | with_reducible (exact Since.refl _) | with_reducible assumption | with_reducible (refine Since.drew ?_) | with_reducible (refine Since.drewN ?_ _) | with_reducible (refine Since.alloc ?_ _) | (with_reducible (refine Since.setCell ?_ ?_ _); rotate_left; focus (first | (simp; done) | (simp; omega) | omega)) | (with_reducible (refine Since.trans ?_ (by with_reducible assumption)))))
  have H3 := Lib.hid (fun w => hV1 w rfl)
  have H4 := Lib.hid (fun w => hV2 w rfl)
  have H5 := Lib.hid (fun w => hP w rfl)
  have H6 := Lib.hid (fun w hc => hX w rfl hc)
  have H7 := Lib.hid (fun w => hT w rfl)
  clear hV1 hV2 hP hX hT
  cases a1
  rotate_left
  · have hR : R = cpNone := HR.out
    clear HR
    subst hR
    clear H2 H3 H4 H5 H6 H7
    go_wp2_with (first | (go_at_call 59; (with_reducible refine (HG.out _ _ (by rfl) _).mono ?_); rintro e w1 ⟨rfl, hS1⟩; have hT : Since w0 w1 := (by (repeat (first | with_reducible (exact Since.refl _) | with_reducible assumption | with_reducible (refine Since.drew ?_) | with_reducible (refine Since.drewN ?_ _) | with_reducible (refine Since.alloc ?_ _) | (with_reducible (refine Since.setCell ?_ ?_ _); rotate_left; focus (first | (simp; done) | (simp; omega) | omega)) | (with_reducible (refine Since.trans ?_ (by with_reducible assumption)))))); have rR := rR.since hT; have rA := rA.since hT; have rB := rB.since hT; have hS := hS.trans hT; clear hT hS1 l1 l2 l3 l4 l5 m1 m2 m3 m4 m5; obtain ⟨l1, l2, l3, l4, l5⟩ := lcells rA; obtain ⟨m1, m2, m3, m4, m5⟩ := lcells rB; obtain ⟨r1, r2, r3, r4, r5, r6, r7⟩ := ccells rR; have rF := rR.2.1; have f0 := rF 0; have f1 := rF 1; have f2 := rF 2; have f3 := rF 3; have f4 := rF 4; have f5 := rF 5; clear rF) | (go_at_call 92; (with_reducible refine (H1.out _).mono ?_); rintro e w2 ⟨rfl, hS2⟩; have rR := rR.since hS2; have rA := rA.since hS2; have rB := rB.since hS2; have hS := hS.trans hS2; clear hS2 l1 l2 l3 l4 l5 m1 m2 m3 m4 m5 r1 r2 r3 r4 r5 r6 r7 f0 f1 f2 f3 f4 f5; obtain ⟨l1, l2, l3, l4, l5⟩ := lcells rA; obtain ⟨m1, m2, m3, m4, m5⟩ := lcells rB; obtain ⟨r1, r2, r3, r4, r5, r6, r7⟩ := ccells rR; have rF := rR.2.1; have f0 := rF 0; have f1 := rF 1; have f2 := rF 2; have f3 := rF 3; have f4 := rF 4; have f5 := rF 5; clear rF))
    refine ret_agg_tmp (P := Try.prog) Try.results66 rfl (cp_range (cput rR cpNone)) Try.underlying104 rfl (by kernel_rfl) rfl rfl ⟨rfl, ?_⟩
    (repeat (first | with_reducible (exact Since.refl _) | with_reducible assumption | with_reducible (refine Since.drew ?_) | with_reducible (refine Since.drewN ?_ _) | with_reducible (refine Since.alloc ?_ _) | (with_reducible (refine Since.setCell ?_ ?_ _); rotate_left; focus (first | (simp; done) | (simp; omega) | omega)) | (with_reducible (refine Since.trans ?_ (by with_reducible assumption)))))
  cases a2
  rotate_left
  · have hR : R = cpNone := HR.out
    clear HR
    subst hR
    clear H3 H4 H5 H6 H7
    go_wp2_with (first | (go_at_call 59; (with_reducible refine (HG.out _ _ (by rfl) _).mono ?_); rintro e w1 ⟨rfl, hS1⟩; have hT : Since w0 w1 := (by (repeat (first | with_reducible (exact Since.refl _) | with_reducible assumption | with_reducible (refine Since.drew ?_) | with_reducible (refine Since.drewN ?_ _) | with_reducible (refine Since.alloc ?_ _) | (with_reducible (refine Since.setCell ?_ ?_ _); rotate_left; focus (first | (simp; done) | (simp; omega) | omega)) | (with_reducible (refine Since.trans ?_ (by with_reducible assumption)))))); have rR := rR.since hT; have rA := rA.since hT; have rB := rB.since hT; have hS := hS.trans hT; clear hT hS1 l1 l2 l3 l4 l5 m1 m2 m3 m4 m5; obtain ⟨l1, l2, l3, l4, l5⟩ := lcells rA; obtain ⟨m1, m2, m3, m4, m5⟩ := lcells rB; obtain ⟨r1, r2, r3, r4, r5, r6, r7⟩ := ccells rR; have rF := rR.2.1; have f0 := rF 0; have f1 := rF 1; have f2 := rF 2; have f3 := rF 3; have f4 := rF 4; have f5 := rF 5; clear rF) | (go_at_call 92; (with_reducible refine (H1.out _).mono ?_); rintro e w2 ⟨rfl, hS2⟩; have rR := rR.since hS2; have rA := rA.since hS2; have rB := rB.since hS2; have hS := hS.trans hS2; clear hS2 l1 l2 l3 l4 l5 m1 m2 m3 m4 m5 r1 r2 r3 r4 r5 r6 r7 f0 f1 f2 f3 f4 f5; obtain ⟨l1, l2, l3, l4, l5⟩ := lcells rA; obtain ⟨m1, m2, m3, m4, m5⟩ := lcells rB; obtain ⟨r1, r2, r3, r4, r5, r6, r7⟩ := ccells rR; have rF := rR.2.1; have f0 := rF 0; have f1 := rF 1; have f2 := rF 2; have f3 := rF 3; have f4 := rF 4; have f5 := rF 5; clear rF) | (go_at_call 92; (with_reducible refine (H2.out _).mono ?_); rintro e w2 ⟨rfl, hS2⟩; have rR := rR.since hS2; have rA := rA.since hS2; have rB := rB.since hS2; have hS := hS.trans hS2; clear hS2 l1 l2 l3 l4 l5 m1 m2 m3 m4 m5 r1 r2 r3 r4 r5 r6 r7 f0 f1 f2 f3 f4 f5; obtain ⟨l1, l2, l3, l4, l5⟩ := lcells rA; obtain ⟨m1, m2, m3, m4, m5⟩ := lcells rB; obtain ⟨r1, r2, r3, r4, r5, r6, r7⟩ := ccells rR; have rF := rR.2.1; have f0 := rF 0; have f1 := rF 1; have f2 := rF 2; have f3 := rF 3; have f4 := rF 4; have f5 := rF 5; clear rF))
    refine ret_agg_tmp (P := Try.prog) Try.results66 rfl (cp_range (cput rR cpNone)) Try.underlying104 rfl (by kernel_rfl) rfl rfl ⟨rfl, ?_⟩
    (repeat (first | with_reducible (exact Since.refl _) | with_reducible assumption | with_reducible (refine Since.drew ?_) | with_reducible (refine Since.drewN ?_ _) | with_reducible (refine Since.alloc ?_ _) | (with_reducible (refine Since.setCell ?_ ?_ _); rotate_left; focus (first | (simp; done) | (simp; omega) | omega)) | (with_reducible (refine Since.trans ?_ (by with_reducible assumption)))))
  go_wp2_with (first | (go_at_call 59; (with_reducible refine (HG.out _ _ (by rfl) _).mono ?_); rintro e w1 ⟨rfl, hS1⟩; have hT : Since w0 w1 := (by (repeat (first | with_reducible (exact Since.refl _) | with_reducible assumption | with_reducible (refine Since.drew ?_) | with_reducible (refine Since.drewN ?_ _) | with_reducible (refine Since.alloc ?_ _) | (with_reducible (refine Since.setCell ?_ ?_ _); rotate_left; focus (first | (simp; done) | (simp; omega) | omega)) | (with_reducible (refine Since.trans ?_ (by with_reducible assumption)))))); have rR := rR.since hT; have rA := rA.since hT; have rB := rB.since hT; have hS := hS.trans hT; clear hT hS1 l1 l2 l3 l4 l5 m1 m2 m3 m4 m5; obtain ⟨l1, l2, l3, l4, l5⟩ := lcells rA; obtain ⟨m1, m2, m3, m4, m5⟩ := lcells rB; obtain ⟨r1, r2, r3, r4, r5, r6, r7⟩ := ccells rR; have rF := rR.2.1; have f0 := rF 0; have f1 := rF 1; have f2 := rF 2; have f3 := rF 3; have f4 := rF 4; have f5 := rF 5; clear rF) | (go_at_call 92; (with_reducible refine (H1.out _).mono ?_); rintro e w2 ⟨rfl, hS2⟩; have rR := rR.since hS2; have rA := rA.since hS2; have rB := rB.since hS2; have hS := hS.trans hS2; clear hS2 l1 l2 l3 l4 l5 m1 m2 m3 m4 m5 r1 r2 r3 r4 r5 r6 r7 f0 f1 f2 f3 f4 f5; obtain ⟨l1, l2, l3, l4, l5⟩ := lcells rA; obtain ⟨m1, m2, m3, m4, m5⟩ := lcells rB; obtain ⟨r1, r2, r3, r4, r5, r6, r7⟩ := ccells rR; have rF := rR.2.1; have f0 := rF 0; have f1 := rF 1; have f2 := rF 2; have f3 := rF 3; have f4 := rF 4; have f5 := rF 5; clear rF) | (go_at_call 92; (with_reducible refine (H2.out _).mono ?_); rintro e w2 ⟨rfl, hS2⟩; have rR := rR.since hS2; have rA := rA.since hS2; have rB := rB.since hS2; have hS := hS.trans hS2; clear hS2 l1 l2 l3 l4 l5 m1 m2 m3 m4 m5 r1 r2 r3 r4 r5 r6 r7 f0 f1 f2 f3 f4 f5; obtain ⟨l1, l2, l3, l4, l5⟩ := lcells rA; obtain ⟨m1, m2, m3, m4, m5⟩ := lcells rB; obtain ⟨r1, r2, r3, r4, r5, r6, r7⟩ := ccells rR; have rF := rR.2.1; have f0 := rF 0; have f1 := rF 1; have f2 := rF 2; have f3 := rF 3; have f4 := rF 4; have f5 := rF 5; clear rF))
  refine wp_named fun wq hwq => ?_
  obtain rfl := hwq
  go_cut [6] (fun x wx => x = .int .i64 c ∧ Since wq wx)
  case first =>
    clear rR rA rB hS H6 H7 HR HG
    (refine wp_named fun wr7 hwr7 => ?_; go_region_held3 (fun w' => (∀ b o, b < wr7.heap.size → w'.cell? ⟨b, o, none⟩ = wr7.cell? ⟨b, o, none⟩) ∧ (∀ b o, b < wr7.heap.size → w'.frozen? ⟨b, o, none⟩ = wr7.frozen? ⟨b, o, none⟩) ∧ (∀ k, k < wr7.heap.size → k < w'.heap.size) ∧ Below wr7.heap.size wr7 w') ((subst hwr7; (repeat (with_reducible (refine since_put ?_ ?_ _); rotate_left; focus (first | (simp; done) | (simp; omega) | omega))); first | assumption | (refine since_step (by assumption) ?_; first | assumption | ((repeat (first | with_reducible (exact Since.refl _) | with_reducible assumption | with_reducible (refine Since.drew ?_) | with_reducible (refine Since.drewN ?_ _) | with_reducible (refine Since.alloc ?_ _) | (with_reducible (refine Since.setCell ?_ ?_ _); rotate_left; focus (first | (simp; done) | (simp; omega) | omega)))); done)) | (refine since_step (Since.refl _) ?_; first | assumption | ((repeat (first | with_reducible (exact Since.refl _) | with_reducible assumption | with_reducible (refine Since.drew ?_) | with_reducible (refine Since.drewN ?_ _) | with_reducible (refine Since.alloc ?_ _) | (with_reducible (refine Since.setCell ?_ ?_ _); rotate_left; focus (first | (simp; done) | (simp; omega) | omega)) | (with_reducible (refine Since.trans ?_ (by with_reducible assumption))))); done)))) (first | (go_at_call 94; (with_reducible refine (H3.out _).mono ?_); rintro e w1 ⟨rfl, hS⟩; have hZ := hS.below.size; (try simp at hZ)) | (go_at_call 94; (with_reducible refine (H4.out _).mono ?_); rintro e w1 ⟨rfl, hS⟩; have hZ := hS.below.size; (try simp at hZ)) | (go_at_call 93; (with_reducible refine (H5.out _).mono ?_); rintro e w1 ⟨rfl, hS⟩; have hZ := hS.below.size; (try simp at hZ))); all_goals (rename_i hHeld; have hR7 : Since wr7 _ := hHeld; obtain ⟨hcR7, hfR7, hzR7, hbR7⟩ := hHeld; subst hwr7))
    all_goals (go_wp2_with fail)
    all_goals go_meet
    all_goals exact ⟨rfl, by (repeat (first | with_reducible (exact Since.refl _) | with_reducible assumption | with_reducible (refine Since.drew ?_) | with_reducible (refine Since.drewN ?_ _) | with_reducible (refine Since.alloc ?_ _) | (with_reducible (refine Since.setCell ?_ ?_ _); rotate_left; focus (first | (simp; done) | (simp; omega) | omega)) | (with_reducible (refine Since.trans ?_ (by with_reducible assumption)))))⟩
  obtain ⟨rfl, hR7⟩ := hcut
  have rR := rR.since hR7
  have rA := rA.since hR7
  have rB := rB.since hR7
  have hS := hS.trans hR7
  clear hR7 l1 l2 l3 l4 l5 m1 m2 m3 m4 m5 r1 r2 r3 r4 r5 r6 r7 f0 f1 f2 f3 f4 f5 H3 H4 H5 H1 H2
  obtain ⟨l1, l2, l3, l4, l5⟩ := lcells rA
  obtain ⟨m1, m2, m3, m4, m5⟩ := lcells rB
  (obtain ⟨r1, r2, r3, r4, r5, r6, r7⟩ := ccells rR; have rF := rR.2.1; have f0 := rF 0; have f1 := rF 1; have f2 := rF 2; have f3 := rF 3; have f4 := rF 4; have f5 := rF 5; clear rF)
  have hR : R = if c = 0 then ⟨t1, t2, t3, t4⟩ else ⟨x1, x2, x3, x4⟩ := HR.out
  clear HR
  by_cases hc : c = 0
  · rw [if_pos hc] at hR
    subst hR
    have hd : (c != 0) = false := by simp [hc]
    clear hc H6
    go_wp2_with (go_at_call 96; (with_reducible refine (H7.out _).mono ?_); rintro e w3 ⟨rfl, hS3⟩; have rR := rR.since hS3; have hS := hS.trans hS3; clear hS3 l1 l2 l3 l4 l5 m1 m2 m3 m4 m5 r1 r2 r3 r4 r5 r6 r7 f0 f1 f2 f3 f4 f5; obtain ⟨r1, r2, r3, r4, r5, r6, r7⟩ := ccells rR; have rF := rR.2.1; have f0 := rF 0; have f1 := rF 1; have f2 := rF 2; have f3 := rF 3; have f4 := rF 4; have f5 := rF 5; clear rF)
    refine ret_agg_tmp (P := Try.prog) Try.results66 rfl (cp_range (cput rR ⟨t1, t2, t3, t4⟩)) Try.underlying104 rfl (by kernel_rfl) rfl rfl ⟨rfl, ?_⟩
    (repeat (first | with_reducible (exact Since.refl _) | with_reducible assumption | with_reducible (refine Since.drew ?_) | with_reducible (refine Since.drewN ?_ _) | with_reducible (refine Since.alloc ?_ _) | (with_reducible (refine Since.setCell ?_ ?_ _); rotate_left; focus (first | (simp; done) | (simp; omega) | omega)) | (with_reducible (refine Since.trans ?_ (by with_reducible assumption)))))
  · rw [if_neg hc] at hR
    subst hR
    have hd : (c != 0) = true := by simp [hc]
    have H6 := Lib.hid (fun w => H6.out w hc)
    clear hc H7
    go_wp2_with (go_at_call 95; (with_reducible refine (H6.out _).mono ?_); rintro e w3 ⟨rfl, hS3⟩; have rR := rR.since hS3; have hS := hS.trans hS3; clear hS3 l1 l2 l3 l4 l5 m1 m2 m3 m4 m5 r1 r2 r3 r4 r5 r6 r7 f0 f1 f2 f3 f4 f5; obtain ⟨r1, r2, r3, r4, r5, r6, r7⟩ := ccells rR; have rF := rR.2.1; have f0 := rF 0; have f1 := rF 1; have f2 := rF 2; have f3 := rF 3; have f4 := rF 4; have f5 := rF 5; clear rF)
    refine ret_agg_tmp (P := Try.prog) Try.results66 rfl (cp_range (cput rR ⟨x1, x2, x3, x4⟩)) Try.underlying104 rfl (by kernel_rfl) rfl rfl ⟨rfl, ?_⟩
    (repeat (first | with_reducible (exact Since.refl _) | with_reducible assumption | with_reducible (refine Since.drew ?_) | with_reducible (refine Since.drewN ?_ _) | with_reducible (refine Since.alloc ?_ _) | (with_reducible (refine Since.setCell ?_ ?_ _); rotate_left; focus (first | (simp; done) | (simp; omega) | omega)) | (with_reducible (refine Since.trans ?_ (by with_reducible assumption)))))
theorem cr_meet (s t : Ln) (hs : s.wf) (ht : t.wf) (w : World) : Calls Try.prog 66 #[s.v, t.v] w fun e w' => e = .returned (.tuple #[(meetCp s t).v, .int .i64 (meetE s t)]) ∧ Since w w' := by
  have hr : ∀ g, g = (lnG s && lnG t) → g = true → lnG s = true ∧ lnG t = true := fun g h1 h2 => Bool.and_eq_true_iff.1 (h1 ▸ h2)
  have hk : ∀ g, g = (lnG s && lnG t) → g = true → (-4194304 ≤ s.ax ∧ s.ax ≤ 4194304 ∧ -4194304 ≤ s.ay ∧ s.ay ≤ 4194304) ∧ (-4194304 ≤ s.bx ∧ s.bx ≤ 4194304 ∧ -4194304 ≤ s.bz ∧ s.bz ≤ 4194304) ∧ (-4194304 ≤ t.ax ∧ t.ax ≤ 4194304 ∧ -4194304 ≤ t.ay ∧ t.ay ≤ 4194304) ∧ (-4194304 ≤ t.bx ∧ t.bx ≤ 4194304 ∧ -4194304 ≤ t.bz ∧ t.bz ≤ 4194304) := fun g h1 h2 => by
    obtain ⟨h3, h4⟩ := hr g h1 h2
    exact ⟨goodB_iff.1 (Bool.and_eq_true_iff.1 h3).1, goodB_iff.1 (Bool.and_eq_true_iff.1 h3).2, goodB_iff.1 (Bool.and_eq_true_iff.1 h4).1, goodB_iff.1 (Bool.and_eq_true_iff.1 h4).2⟩
  refine meet_of s t (lnG s && lnG t) _ _ _ _ _ _ (cC s t) (crossCp s t) (touchOf (ends s t)) (meetCp s t) w (fun w b hb ty => good4 w b hb _ _ _ _ _ _ _ _ ty hs.1 hs.2 ht.1 ht.2) (fun w => cr_apart _ _ _ _ w) (fun w => cr_apart _ _ _ _ w)
    (fun w hg => cr_vector s.ax s.ay s.bx s.bz (by obtain ⟨q1, q2, q3, q4⟩ := hk _ rfl hg; exact IntWalk.i64_in _ (by omega)) (by obtain ⟨q1, q2, q3, q4⟩ := hk _ rfl hg; exact IntWalk.i64_in _ (by omega)) w)
    (fun w hg => cr_vector t.ax t.ay t.bx t.bz (by obtain ⟨q1, q2, q3, q4⟩ := hk _ rfl hg; exact IntWalk.i64_in _ (by omega)) (by obtain ⟨q1, q2, q3, q4⟩ := hk _ rfl hg; exact IntWalk.i64_in _ (by omega)) w)
    (fun w hg => ?_) (fun w hg hc => cr_crossing_x s t (hr _ rfl hg).1 (hr _ rfl hg).2 hc w) (fun w hg => cr_touching s t (hr _ rfl hg).1 (hr _ rfl hg).2 w) ?_
  · obtain ⟨q1, q2, q3, q4⟩ := hk _ rfl hg
    have n1 : Near (s.bx - s.ax) := by unfold Near; omega
    have n2 : Near (s.bz - s.ay) := by unfold Near; omega
    have n5 : Near (t.bx - t.ax) := by unfold Near; omega
    have n6 : Near (t.bz - t.ay) := by unfold Near; omega
    have m5 := near_mul n1 n6; have m6 := near_mul n2 n5
    exact cr_product (s.bx - s.ax) (s.bz - s.ay) (t.bx - t.ax) (t.bz - t.ay) (IntWalk.i64_in _ (by omega)) (IntWalk.i64_in _ (by omega)) (IntWalk.i64_in _ (by omega)) w
  · unfold meetCp meetG aprtL
    rfl
end Go.Proofs.Ytckochcocflleaa

/-
  math/bits.Len64 and LeadingZeros64 over this translation: how often a word that is not 0 can be doubled.
-/
namespace Go.Proofs.Ytckochcocflleaa
open Go.RowKit
set_option linter.unusedVariables false

set_option maxHeartbeats 4000000 in
set_option maxRecDepth 100000 in
theorem len64 (x : Int) (w : World) (h0 : 0 ≤ x) (h1 : x ≤ 18446744073709551615) :
    Calls Try.prog 115 #[.int .u64 x] w fun e w' => e = .returned (.int .i64 (Lib.bitLen x.toNat)) ∧ w = w' := by
  have z0 : 0 ≤ x / 4294967296 / 65536 / 256 := by omega
  have c0 : x / 4294967296 / 65536 / 256 < 256 → x / 4294967296 / 65536 / 256 ≤ 255 := by omega
  have z1 : 0 ≤ x / 4294967296 / 65536 := by omega
  have c1 : x / 4294967296 / 65536 < 256 → x / 4294967296 / 65536 ≤ 255 := by omega
  have z2 : 0 ≤ x / 4294967296 / 256 := by omega
  have c2 : x / 4294967296 / 256 < 256 → x / 4294967296 / 256 ≤ 255 := by omega
  have z3 : 0 ≤ x / 4294967296 := by omega
  have c3 : x / 4294967296 < 256 → x / 4294967296 ≤ 255 := by omega
  have z4 : 0 ≤ x / 65536 / 256 := by omega
  have c4 : x / 65536 / 256 < 256 → x / 65536 / 256 ≤ 255 := by omega
  have z5 : 0 ≤ x / 65536 := by omega
  have c5 : x / 65536 < 256 → x / 65536 ≤ 255 := by omega
  have z6 : 0 ≤ x / 256 := by omega
  have c6 : x / 256 < 256 → x / 256 ≤ 255 := by omega
  have c7 : x < 256 → x ≤ 255 := by omega
  have u0 : x / 4294967296 / 65536 / 256 ≤ 255 := by omega
  have u1 : x / 4294967296 < 65536 → x / 4294967296 / 256 ≤ 255 := by omega
  have u2 : x < 4294967296 → x / 65536 / 256 ≤ 255 := by omega
  have u3 : x < 65536 → x / 256 ≤ 255 := by omega
  go_enter Try.func115, Try.ntmps115
  go_wp2
  all_goals (go_ret; refine ⟨congrArg Ending.returned (congrArg (Value.int IntKind.i64) ?_), rfl⟩)
  all_goals clear c0 c1 c2 c3 c4 c5 c6 c7 u0 u1 u2 u3 z0 z1 z2 z3 z4 z5 z6
  all_goals first
    | (rw [Lib.len8_of (x / 4294967296 / 65536 / 256) (by omega) (by omega)]
       have e : (x / 4294967296 / 65536 / 256).toNat = x.toNat / 72057594037927936 := by omega
       have l := Lib.bitLen_le8' (x / 4294967296 / 65536 / 256) (by omega) (by omega)
       have s := Lib.bitLen_shift56 x.toNat (by omega) (by omega)
       rw [e] at l ⊢
       unfold wrap64; omega)
    | (rw [Lib.len8_of (x / 4294967296 / 65536) (by omega) (by omega)]
       have e : (x / 4294967296 / 65536).toNat = x.toNat / 281474976710656 := by omega
       have l := Lib.bitLen_le8' (x / 4294967296 / 65536) (by omega) (by omega)
       have s := Lib.bitLen_shift48 x.toNat (by omega) (by omega)
       rw [e] at l ⊢
       unfold wrap64; omega)
    | (rw [Lib.len8_of (x / 4294967296 / 256) (by omega) (by omega)]
       have e : (x / 4294967296 / 256).toNat = x.toNat / 1099511627776 := by omega
       have l := Lib.bitLen_le8' (x / 4294967296 / 256) (by omega) (by omega)
       have s := Lib.bitLen_shift40 x.toNat (by omega) (by omega)
       rw [e] at l ⊢
       unfold wrap64; omega)
    | (rw [Lib.len8_of (x / 4294967296) (by omega) (by omega)]
       have e : (x / 4294967296).toNat = x.toNat / 4294967296 := by omega
       have l := Lib.bitLen_le8' (x / 4294967296) (by omega) (by omega)
       have s := Lib.bitLen_shift32 x.toNat (by omega) (by omega)
       rw [e] at l ⊢
       unfold wrap64; omega)
    | (rw [Lib.len8_of (x / 65536 / 256) (by omega) (by omega)]
       have e : (x / 65536 / 256).toNat = x.toNat / 16777216 := by omega
       have l := Lib.bitLen_le8' (x / 65536 / 256) (by omega) (by omega)
       have s := Lib.bitLen_shift24 x.toNat (by omega) (by omega)
       rw [e] at l ⊢
       unfold wrap64; omega)
    | (rw [Lib.len8_of (x / 65536) (by omega) (by omega)]
       have e : (x / 65536).toNat = x.toNat / 65536 := by omega
       have l := Lib.bitLen_le8' (x / 65536) (by omega) (by omega)
       have s := Lib.bitLen_shift16 x.toNat (by omega) (by omega)
       rw [e] at l ⊢
       unfold wrap64; omega)
    | (rw [Lib.len8_of (x / 256) (by omega) (by omega)]
       have e : (x / 256).toNat = x.toNat / 256 := by omega
       have l := Lib.bitLen_le8' (x / 256) (by omega) (by omega)
       have s := Lib.bitLen_shift8 x.toNat (by omega) (by omega)
       rw [e] at l ⊢
       unfold wrap64; omega)
    | (rw [Lib.len8_of x (by omega) (by omega)]
       have l := Lib.bitLen_le8' x (by omega) (by omega)
       unfold wrap64; omega)

/-- How often the word y, which is not 0, is doubled till its highest bit is set. -/
def lz (y : Int) : Nat := 64 - Lib.bitLen y.toNat
theorem lz_facts {y : Int} (h0 : 0 < y) (h1 : y < 18446744073709551616) : lz y ≤ 63 ∧ 9223372036854775808 ≤ y * 2 ^ lz y ∧ y * 2 ^ lz y < 18446744073709551616 := by
  obtain ⟨n, rfl⟩ := Int.eq_ofNat_of_zero_le (Int.le_of_lt h0)
  obtain ⟨b1, b2, b3⟩ := Lib.bitLenAux_bounds 64 n (by omega) (by omega)
  have b4 := Lib.bitLen_le n 64 (by omega) (by omega)
  have hb : Lib.bitLen n = Lib.bitLenAux 64 n := rfl
  rw [← hb] at b1 b2 b3
  unfold lz
  rw [Int.toNat_natCast]
  generalize Lib.bitLen n = k at *
  have p1 : 2 ^ (k - 1) * 2 ^ (64 - k) = 9223372036854775808 := by rw [← Nat.pow_add, show k - 1 + (64 - k) = 63 by omega]
  have p2 : 2 ^ k * 2 ^ (64 - k) = 18446744073709551616 := by rw [← Nat.pow_add, show k + (64 - k) = 64 by omega]
  have q1 : 2 ^ (k - 1) * 2 ^ (64 - k) ≤ n * 2 ^ (64 - k) := Nat.mul_le_mul_right _ b2
  have q2 : n * 2 ^ (64 - k) < 2 ^ k * 2 ^ (64 - k) := Nat.mul_lt_mul_of_pos_right b3 (Nat.two_pow_pos _)
  have e : ((n : Int) * 2 ^ (64 - k)) = ((n * 2 ^ (64 - k) : Nat) : Int) := by push_cast; rfl
  rw [e]
  omega

theorem leading64 (x : Int) (w : World) (h0 : 0 < x) (h1 : x < 18446744073709551616) :
    Calls Try.prog 119 #[.int .u64 x] w fun e w' => e = .returned (.int .i64 (lz x)) ∧ w = w' := by
  have b4 := Lib.bitLen_le x.toNat 64 (by omega) (by omega)
  have E : ((lz x : Nat) : Int) = 64 - (Lib.bitLen x.toNat : Int) := by unfold lz; omega
  rw [E]; clear E
  go_enter Try.func119, Try.ntmps119
  go_wp2_with (go_at_call 115; refine (len64 _ _ (by omega) (by omega)).mono ?_; rintro e w' ⟨rfl, rfl⟩)
  go_ret
  exact ⟨rfl, rfl⟩
end Go.Proofs.Ytckochcocflleaa

/-
  The arithmetic of a division of two words by one, half a word at a time: no Go in sight.
-/
namespace Go.Proofs.Ytckochcocflleaa
namespace Half
/-- The digit that is sought. -/
def digit (u d y1 y0 : Int) : Int := (u * 4294967296 + d) / (y1 * 4294967296 + y0)
def rest (u d y1 y0 : Int) : Int := (u * 4294967296 + d) % (y1 * 4294967296 + y0)

/-- What is known all along: the divisor's halves, and what is left. -/
structure Fit (u d y1 y0 : Int) : Prop where
  d0 : 0 ≤ d
  d1 : d < 4294967296
  a0 : 2147483648 ≤ y1
  a1 : y1 < 4294967296
  b0 : 0 ≤ y0
  b1 : y0 < 4294967296
  u0 : 0 ≤ u
  u1 : u < y1 * 4294967296 + y0

section
variable {u d y1 y0 Q R : Int}
theorem mulY (Q y1 y0 : Int) : Q * (y1 * 4294967296 + y0) = Q * y1 * 4294967296 + Q * y0 := by rw [Int.mul_add, Int.mul_assoc]

theorem digit_nonneg (h : Fit u d y1 y0) : 0 ≤ digit u d y1 y0 := by
  obtain ⟨d0, d1, a0, a1, b0, b1, u0, u1⟩ := h
  exact Int.ediv_nonneg (by omega) (by omega)
theorem digit_lt (h : Fit u d y1 y0) : digit u d y1 y0 < 4294967296 := by
  obtain ⟨d0, d1, a0, a1, b0, b1, u0, u1⟩ := h
  unfold digit
  exact Int.ediv_lt_of_lt_mul (by omega) (by omega)
/-- A guess whose product fits is no greater than the digit. -/
theorem guess_le (h : Fit u d y1 y0) (hQ : Q * y1 + R = u) (ht : Q * y0 ≤ 4294967296 * R + d) : Q ≤ digit u d y1 y0 := by
  obtain ⟨d0, d1, a0, a1, b0, b1, u0, u1⟩ := h
  unfold digit
  refine Int.le_ediv_of_mul_le (by omega) ?_
  rw [mulY]
  omega
theorem le_guess (h : Fit u d y1 y0) (hQ : Q * y1 + R = u) (hx : 4294967296 ≤ Q ∨ 4294967296 * R + d < Q * y0) : digit u d y1 y0 ≠ Q := by
  intro e
  have hl := digit_lt h
  obtain ⟨d0, d1, a0, a1, b0, b1, u0, u1⟩ := h
  rcases hx with hx | hx
  · omega
  · have : digit u d y1 y0 * (y1 * 4294967296 + y0) ≤ u * 4294967296 + d := Int.ediv_mul_le _ (by omega)
    rw [e, mulY] at this
    omega
/-- The first guess. -/
theorem first (h : Fit u d y1 y0) : digit u d y1 y0 ≤ u / y1 := by
  obtain ⟨d0, d1, a0, a1, b0, b1, u0, u1⟩ := h
  refine Int.le_ediv_of_mul_le (by omega) ?_
  have h1 : digit u d y1 y0 * (y1 * 4294967296 + y0) ≤ u * 4294967296 + d := Int.ediv_mul_le _ (by omega)
  have h0 : 0 ≤ digit u d y1 y0 := Int.ediv_nonneg (by omega) (by omega)
  have h2 : 0 ≤ digit u d y1 y0 * y0 := Int.mul_nonneg h0 b0
  rw [mulY] at h1
  omega
theorem guess_bd (h : Fit u d y1 y0) (hQ : Q * y1 + R = u) (hR : 0 ≤ R) : Q ≤ 4294967297 := by
  obtain ⟨d0, d1, a0, a1, b0, b1, u0, u1⟩ := h
  have : Q * y1 < 4294967298 * y1 := by omega
  have := Int.lt_of_mul_lt_mul_right this (by omega)
  omega
theorem broken (h : Fit u d y1 y0) (hQ : Q * y1 + R = u) (hQ0 : 0 ≤ Q) (hd : digit u d y1 y0 ≤ Q) (hR : 4294967296 ≤ R) : Q = digit u d y1 y0 := by
  refine Int.le_antisymm (guess_le h hQ ?_) hd
  obtain ⟨d0, d1, a0, a1, b0, b1, u0, u1⟩ := h
  have h1 : Q * y1 < 4294967296 * y1 := by omega
  have h2 := Int.lt_of_mul_lt_mul_right h1 (by omega)
  have h3 : Q * y0 ≤ 4294967295 * 4294967295 := Int.mul_le_mul (by omega) (by omega) b0 (by omega)
  omega
theorem rest_eq (u d y1 y0 : Int) : u * 4294967296 + d - digit u d y1 y0 * (y1 * 4294967296 + y0) = rest u d y1 y0 := by
  unfold digit rest
  have := Int.mul_ediv_add_emod (u * 4294967296 + d) (y1 * 4294967296 + y0)
  rw [Int.mul_comm] at this
  omega
theorem rest_bd (h : Fit u d y1 y0) : 0 ≤ rest u d y1 y0 ∧ rest u d y1 y0 < y1 * 4294967296 + y0 := by
  obtain ⟨d0, d1, a0, a1, b0, b1, u0, u1⟩ := h
  exact ⟨Int.emod_nonneg _ (by omega), Int.emod_lt_of_pos _ (by omega)⟩
/-- The loop's relation. -/
def Rel (u d y1 y0 Q R : Int) : Prop := Q * y1 + R = u ∧ 0 ≤ Q ∧ digit u d y1 y0 ≤ Q ∧ 0 ≤ R ∧ R < 4294967296
theorem Rel.start (h : Fit u d y1 y0) : Rel u d y1 y0 (u / y1) (u - u / y1 * y1) := by
  have hf := first h
  have hn := digit_nonneg h
  obtain ⟨d0, d1, a0, a1, b0, b1, u0, u1⟩ := h
  have e := Int.mul_ediv_add_emod u y1
  have b := Int.emod_lt_of_pos u (show 0 < y1 by omega)
  have c := Int.emod_nonneg u (show y1 ≠ 0 by omega)
  rw [Int.mul_comm] at e
  exact ⟨by omega, by omega, hf, by omega, by omega⟩
theorem Rel.again (h : Fit u d y1 y0) (r : Rel u d y1 y0 Q R) (hx : 4294967296 ≤ Q ∨ 4294967296 * R + d < Q * y0) : (Q - 1) * y1 + (R + y1) = u ∧ 0 ≤ Q - 1 ∧ digit u d y1 y0 ≤ Q - 1 := by
  obtain ⟨r1, r2, r3, r4, r5⟩ := r
  have := le_guess h r1 hx
  have := digit_nonneg h
  refine ⟨?_, by omega, by omega⟩
  rw [Int.sub_mul]; omega
theorem Rel.done (h : Fit u d y1 y0) (r : Rel u d y1 y0 Q R) (hx : Q * y0 ≤ 4294967296 * R + d) : Q = digit u d y1 y0 :=
  Int.le_antisymm (guess_le h r.1 hx) r.2.2.1
theorem Rel.bounds (h : Fit u d y1 y0) (r : Rel u d y1 y0 Q R) : Q ≤ 4294967297 ∧ 0 ≤ Q * y0 ∧ Q * y0 < 18446744073709551616 := by
  have hb := guess_bd h r.1 r.2.2.2.1
  obtain ⟨d0, d1, a0, a1, b0, b1, u0, u1⟩ := h
  have h3 : Q * y0 ≤ 4294967297 * 4294967295 := Int.mul_le_mul (by omega) (by omega) b0 (by omega)
  exact ⟨hb, Int.mul_nonneg r.2.1 b0, by omega⟩
end

/-- Two halves of a quotient, and what is left, are those of the whole. -/
theorem whole {u d1 d0 y1 y0 : Int} (h1 : Fit u d1 y1 y0) (h2 : Fit (rest u d1 y1 y0) d0 y1 y0) :
    digit u d1 y1 y0 * 4294967296 + digit (rest u d1 y1 y0) d0 y1 y0 = (u * 18446744073709551616 + d1 * 4294967296 + d0) / (y1 * 4294967296 + y0) ∧
    rest (rest u d1 y1 y0) d0 y1 y0 = (u * 18446744073709551616 + d1 * 4294967296 + d0) % (y1 * 4294967296 + y0) := by
  have e1 := rest_eq u d1 y1 y0
  have e2 := rest_eq (rest u d1 y1 y0) d0 y1 y0
  have b2 := rest_bd h2
  have a0 := h1.a0; have b0 := h1.b0
  generalize rest (rest u d1 y1 y0) d0 y1 y0 = r at *
  generalize rest u d1 y1 y0 = v at *
  generalize digit u d1 y1 y0 = p at *
  generalize digit v d0 y1 y0 = q at *
  have hy : 0 < y1 * 4294967296 + y0 := by omega
  generalize y1 * 4294967296 + y0 = y at *
  have key : u * 18446744073709551616 + d1 * 4294967296 + d0 = r + (p * 4294967296 + q) * y := by
    rw [Int.add_mul, Int.mul_right_comm]
    omega
  rw [key]
  constructor
  · rw [Int.add_mul_ediv_right _ _ (by omega), Int.ediv_eq_zero_of_lt b2.1 b2.2]; omega
  · rw [Int.add_mul_emod_self_right, Int.emod_eq_of_lt b2.1 b2.2]
end Half
end Go.Proofs.Ytckochcocflleaa
