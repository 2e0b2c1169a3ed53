/-
  Layer 15: 'touching', walked.
-/
import Derived.Test.YtckochcocflleaaGreatCrD
import Derived.Test.YtckochcocflleaaGreatKitP
import Derived.Deep.CutBlock
namespace Go.Proofs.YtckochcocflleaaGreat
open Go.RowKit Go.Maps
set_option linter.unusedVariables false

def pts (b : Bool) (x y : Int) : List (Int × Int) := if b then [(x, y)] else []
theorem ends_pts (s t : Ln) : ends s t = pts (onB s.ax s.ay t) s.ax s.ay ++ pts (onB s.bx s.bz t) s.bx s.bz ++ pts (onB t.ax t.ay s) t.ax t.ay ++ pts (onB t.bx t.bz s) t.bx t.bz := rfl
set_option maxRecDepth 100000 in
theorem ix0 (a b c d e f g h i j k l m n o p : Value) (w : World) : (Instr.index 103 (.agg #[a, b, c, d, e, f, g, h, i, j, k, l, m, n, o, p]) (.int .i64 0)).run Tryz.prog w = .ok (.agg #[a, b, c, d, e, f, g, h]) w := by rfl
set_option maxRecDepth 100000 in
theorem ix1 (a b c d e f g h i j k l m n o p : Value) (w : World) : (Instr.index 103 (.agg #[a, b, c, d, e, f, g, h, i, j, k, l, m, n, o, p]) (.int .i64 1)).run Tryz.prog w = .ok (.agg #[i, j, k, l, m, n, o, p]) w := by rfl
set_option maxRecDepth 100000 in
theorem iy0 (a b c d : Value) (w : World) : (Instr.index 104 (.agg #[a, b, c, d]) (.int .i64 0)).run Tryz.prog w = .ok (.agg #[a, b]) w := by rfl
set_option maxRecDepth 100000 in
theorem iy1 (a b c d : Value) (w : World) : (Instr.index 104 (.agg #[a, b, c, d]) (.int .i64 1)).run Tryz.prog w = .ok (.agg #[c, d]) w := by rfl
theorem map_since {P : Program} {k : TypeId} {R : Value → Option (DataW Unit × List MemPlace)} {b n : Nat} {D : DataW Unit} {w w' : World} (h : w.ownsMap P k R b n D) (s : Since w w') : w'.ownsMap P k R b n D := by
  have hlt := h.lt
  obtain ⟨es, clock, hb, r⟩ := h
  exact ⟨es, clock, by rw [s.below.block b hlt]; exact hb, r⟩
/-- The map holds these points. -/
def MapOf (w : World) (b n : Nat) (L : List (Int × Int)) : Prop := w.ownsMap Tryz.prog 34 (unitElem (H := Unit)) b n (setOf (.agg []) (kL L))
theorem map_made (w : World) (b : Nat) (hb : b = w.heap.size) : MapOf (w.alloc (.map #[] 0)) b 0 [] := by
  subst hb
  exact World.ownsMap_made _ _ _ _
theorem MapOf.since {w w' : World} {b n : Nat} {L : List (Int × Int)} (h : MapOf w b n L) (s : Since w w') : MapOf w' b n L := map_since h s
/-- A pair of lines in memory. -/
def Xf (s t : Ln) (j : Nat) : Value := if j < 4 then Lf s j else Lf t (j - 4)
theorem xrow (w : World) (b : Nat) (hb : b = w.heap.size) (ty : TypeId) (s t : Ln) : Row (w.alloc (.cells #[.int .i64 s.ax, .int .i64 s.ay, .int .i64 s.bx, .int .i64 s.bz, .int .i64 t.ax, .int .i64 t.ay, .int .i64 t.bx, .int .i64 t.bz] ty)) b 8 (Xf s t) := by
  subst hb
  refine Row.of_cells fun j hj => ?_
  have h : j = 0 ∨ j = 1 ∨ j = 2 ∨ j = 3 ∨ j = 4 ∨ j = 5 ∨ j = 6 ∨ j = 7 := by omega
  rcases h with rfl | rfl | rfl | rfl | rfl | rfl | rfl | rfl <;> rfl
theorem xcells {w : World} {b : Nat} {s t : Ln} (h : Row w b 8 (Xf s t)) : w.cell? ⟨b, 4, none⟩ = some (.int .i64 t.ax) ∧ w.cell? ⟨b, 5, none⟩ = some (.int .i64 t.ay) ∧ w.cell? ⟨b, 6, none⟩ = some (.int .i64 t.bx) ∧ w.cell? ⟨b, 7, none⟩ = some (.int .i64 t.bz) ∧ b < w.heap.size := ⟨h.1 4 (by omega), h.1 5 (by omega), h.1 6 (by omega), h.1 7 (by omega), h.2.2⟩
theorem zero97 (w : World) : (zeroValue 42).run Tryz.prog w = .ok (.agg #[]) w := by kernel_rfl
theorem wf_good {x y : Int} (h : goodB x y = true) : (Lit.int .i64 x).wf = true ∧ (Lit.int .i64 y).wf = true := by
  have := goodB_iff.1 h
  exact ⟨wf_of64 (by unfold In64; omega), wf_of64 (by unfold In64; omega)⟩
theorem kL_snoc (L : List (Int × Int)) (x y : Int) : setOf (H := Unit) (.agg []) (kL (L ++ [(x, y)])) = (setOf (.agg []) (kL L)).put (kP x y) (.agg []) := by
  unfold kL
  rw [List.map_append, List.map_singleton, setOf_snoc]
theorem wfl_pts (b : Bool) {x y : Int} (h : goodB x y = true) : WfL (pts b x y) := by
  intro e he
  cases b
  · cases he
  · obtain rfl : e = (x, y) := by simpa [pts] using he
    exact wf_good h
theorem wfl_nil : WfL [] := fun _ h => by cases h
theorem WfL.app {L M : List (Int × Int)} (h : WfL L) (k : WfL M) : WfL (L ++ M) := fun e he => by
  rcases List.mem_append.1 he with he | he
  · exact h e he
  · exact k e he
theorem inw_wf {x : Int} (h : (Lit.int .i64 x).wf = true) : InW x := by
  have h : -9223372036854775808 ≤ x ∧ x ≤ 9223372036854775807 := by simpa [Lit.wf, IntKind.min, IntKind.max, IntKind.signed, IntKind.bits] using h
  unfold InW
  omega
theorem invK (key : Value) (kl : Lit) (h : keyOf Tryz.prog 34 key = some kl) : ∃ x : Int × Int, key = Pt x.1 x.2 := by
  obtain ⟨x, y, h, _⟩ := keyOf_pt_inv h
  exact ⟨(x, y), h⟩
theorem invV (v : Value) (y : DataW Unit × List MemPlace) (h : unitElem v = some y) : ∃ c : Unit, v = (fun _ => Value.agg #[]) c := ⟨(), (unitElem_inv h).1⟩
theorem mem_of_left {L : List (Int × Int)} (hL : WfL L) {x : Int × Int} {kl : Lit} (h : keyOf Tryz.prog 34 (Pt x.1 x.2) = some kl) (hl : Maps.has (setOf (H := Unit) (.agg []) (kL L)) kl = true) : x ∈ L := by
  obtain ⟨u, v, e, rfl, w1, w2⟩ := keyOf_pt_inv h
  unfold Pt at e
  obtain ⟨e1, e2⟩ : x.1 = u ∧ x.2 = v := by simpa using e
  subst e1 e2
  exact (has_kL hL w1 w2).1 hl
set_option maxRecDepth 100000 in
set_option maxHeartbeats 16000000 in
theorem cr_touching_x (ax ay bx bz cx cy dx dz : Int) (o1 o2 o3 o4 : Bool) (hg1 : goodB ax ay = true) (hg2 : goodB bx bz = true) (hg3 : goodB cx cy = true) (hg4 : goodB dx dz = true)
    (ho1 : ∀ w, Calls Tryz.prog 58 #[.agg #[.int .i64 ax, .int .i64 ay], .agg #[.int .i64 cx, .int .i64 cy, .int .i64 dx, .int .i64 dz]] w fun e w' => e = .returned (.bool o1) ∧ Since w w')
    (ho2 : ∀ w, Calls Tryz.prog 58 #[.agg #[.int .i64 bx, .int .i64 bz], .agg #[.int .i64 cx, .int .i64 cy, .int .i64 dx, .int .i64 dz]] w fun e w' => e = .returned (.bool o2) ∧ Since w w')
    (ho3 : ∀ w, Calls Tryz.prog 58 #[.agg #[.int .i64 cx, .int .i64 cy], .agg #[.int .i64 ax, .int .i64 ay, .int .i64 bx, .int .i64 bz]] w fun e w' => e = .returned (.bool o3) ∧ Since w w')
    (ho4 : ∀ w, Calls Tryz.prog 58 #[.agg #[.int .i64 dx, .int .i64 dz], .agg #[.int .i64 ax, .int .i64 ay, .int .i64 bx, .int .i64 bz]] w fun e w' => e = .returned (.bool o4) ∧ Since w w')
    (RV : Value) (hres : (touchOf (pts o1 ax ay ++ pts o2 bx bz ++ pts o3 cx cy ++ pts o4 dx dz)).v = RV) (w : World) :
    Calls Tryz.prog 36 #[.agg #[.int .i64 ax, .int .i64 ay, .int .i64 bx, .int .i64 bz], .agg #[.int .i64 cx, .int .i64 cy, .int .i64 dx, .int .i64 dz]] w fun e w' => e = .returned RV ∧ Since w w' := by
  have hmm := @run_makeMap Tryz.prog
  have hi0 := ix0
  have hi1 := ix1
  have hj0 := iy0
  have hj1 := iy1
  have HRES := Lib.hid hres
  have HO1 := Lib.hid ho1
  have HO2 := Lib.hid ho2
  have HO3 := Lib.hid ho3
  have HO4 := Lib.hid ho4
  have HK1 := Lib.hid (keyOf_pt (wf_good hg1).1 (wf_good hg1).2)
  have HK2 := Lib.hid (keyOf_pt (wf_good hg2).1 (wf_good hg2).2)
  have HK3 := Lib.hid (keyOf_pt (wf_good hg3).1 (wf_good hg3).2)
  have HK4 := Lib.hid (keyOf_pt (wf_good hg4).1 (wf_good hg4).2)
  have HG1 := Lib.hid hg1
  have HG2 := Lib.hid hg2
  have HG3 := Lib.hid hg3
  have HG4 := Lib.hid hg4
  have HX1 := Lib.hid (fun w b hb ty => xrow w b hb ty ⟨ax, ay, bx, bz⟩ ⟨cx, cy, dx, dz⟩)
  have HX2 := Lib.hid (fun w b hb ty => xrow w b hb ty ⟨cx, cy, dx, dz⟩ ⟨ax, ay, bx, bz⟩)
  clear hres ho1 ho2 ho3 ho4 hg1 hg2 hg3 hg4
  go_enter Tryz.func36, Tryz.ntmps36
  go_wp2
  refine wp_named fun w0 hw0 => ?_
  have hM : MapOf w0 (w.heap.size + 1 + 1 + 1) 0 [] := by subst hw0; exact map_made _ _ (by simp)
  have hS : Since w w0 := by subst hw0; (repeat (first | with_reducible (exact Since.refl _) | with_reducible assumption | with_reducible (refine Since.drew ?_) | with_reducible (refine Since.drewN ?_ _) | with_reducible (refine Since.alloc ?_ _) | (with_reducible (refine Since.setCell ?_ ?_ _); rotate_left; focus (first | (simp; done) | (simp; omega) | omega)) | (with_reducible (refine Since.trans ?_ (by with_reducible assumption)))))
  have rR : Row w0 (w.heap.size + 1 + 1) 6 (Cf cpNone) := by subst hw0; exact (crow0 _ _ (by simp) _).alloc _
  have hz : w.heap.size + 4 ≤ w0.heap.size := by subst hw0; simp
  clear hw0
  refine wp_loop_rounds 3 ?_
  rw [rounds_succ]
  go_wp2_with fail
  refine wp_loop_rounds 3 ?_
  rw [rounds_succ]
  go_upto_block 3 with fail
  go_cut [] (fun wx => ∃ n : Nat, n ≤ 1 ∧ MapOf wx (w.heap.size + 1 + 1 + 1) n ([] ++ pts o1 ax ay) ∧ Since w wx ∧ Row wx (w.heap.size + 1 + 1) 6 (Cf cpNone) ∧ w.heap.size + 4 ≤ wx.heap.size ∧ Row wx (w0.heap.size) 8 (Xf ⟨ax, ay, bx, bz⟩ ⟨cx, cy, dx, dz⟩))
  case first =>
    have hb0 : w.heap.size + 1 + 1 ≠ w.heap.size + 1 + 1 + 1 := by omega
    have hb1 : w0.heap.size ≠ w.heap.size + 1 + 1 + 1 := by omega
    cases o1
    · go_wp2_with (go_at_call 58; (with_reducible refine (HO1.out _).mono ?_); rintro e w1 ⟨rfl, hS1⟩; have rX := ((HX1.out w0 _ rfl _).alloc _).since hS1; have hT1 : Since w0 w1 := (by (repeat (first | with_reducible (exact Since.refl _) | with_reducible assumption | with_reducible (refine Since.drew ?_) | with_reducible (refine Since.drewN ?_ _) | with_reducible (refine Since.alloc ?_ _) | (with_reducible (refine Since.setCell ?_ ?_ _); rotate_left; focus (first | (simp; done) | (simp; omega) | omega)) | (with_reducible (refine Since.trans ?_ (by with_reducible assumption)))))); have hM := hM.since hT1; have hS := hS.trans hT1; have rR := rR.since hT1; have hz := Nat.le_trans hz hT1.below.size; clear hT1 hS1)
      go_meet
      case rel => exact ⟨_, Nat.zero_le _, by rw [show [] ++ pts false ax ay = [] ++ [] by rfl, List.append_nil]; exact hM, hS, rR, hz, rX⟩
    · go_wp2_with (first | (go_at_call 58; (with_reducible refine (HO1.out _).mono ?_); rintro e w1 ⟨rfl, hS1⟩; have rX := ((HX1.out w0 _ rfl _).alloc _).since hS1; have hE := (prow _ (w0.heap.size + 1) (by simp) _ ax ay).since hS1; obtain ⟨e1, e2, e3⟩ := pcells hE; clear hE; have hT1 : Since w0 w1 := (by (repeat (first | with_reducible (exact Since.refl _) | with_reducible assumption | with_reducible (refine Since.drew ?_) | with_reducible (refine Since.drewN ?_ _) | with_reducible (refine Since.alloc ?_ _) | (with_reducible (refine Since.setCell ?_ ?_ _); rotate_left; focus (first | (simp; done) | (simp; omega) | omega)) | (with_reducible (refine Since.trans ?_ (by with_reducible assumption)))))); have hM := hM.since hT1; have hS := hS.trans hT1; have rR := rR.since hT1; have hz := Nat.le_trans hz hT1.below.size; clear hT1 hS1) | (at_mapUpdate; refine wpList_mapUpdate_own _ rfl _ _ _ 40 rfl 34 42 lawPt Tryz.underlying40 (unitElem (H := Unit)) (w.heap.size + 1 + 1 + 1) 0 _ rfl hM (by unfold maxLen; omega) _ _ _ rfl rfl (HK1.out) _ [] unitElem_mk ?_; intro v1 hown hgr))
      go_meet
      case rel => exact ⟨_, Nat.le_refl _, by show World.ownsMap _ _ _ _ _ _ (setOf (.agg []) (kL ([] ++ [(ax, ay)]))); rw [kL_snoc]; exact hown, since_grown hS hgr (fun k hk => by injection hk with hk; omega), rR.grown hgr hb0, Nat.le_trans hz hgr.size, rX.grown hgr hb1⟩
  obtain ⟨n, hn, hM, hS, rR, hz, rX⟩ := hcut
  obtain ⟨x1, x2, x3, x4, x5⟩ := xcells rX
  go_wp2_with fail
  rw [rounds_succ]
  go_upto_block 3 with fail
  go_cut [] (fun wx => ∃ n : Nat, n ≤ 2 ∧ MapOf wx (w.heap.size + 1 + 1 + 1) n ([] ++ pts o1 ax ay ++ pts o2 bx bz) ∧ Since w wx ∧ Row wx (w.heap.size + 1 + 1) 6 (Cf cpNone) ∧ w.heap.size + 4 ≤ wx.heap.size ∧ Row wx (w0.heap.size) 8 (Xf ⟨ax, ay, bx, bz⟩ ⟨cx, cy, dx, dz⟩))
  case first =>
    have hb0 : w.heap.size + 1 + 1 ≠ w.heap.size + 1 + 1 + 1 := by omega
    have hb1 : w0.heap.size ≠ w.heap.size + 1 + 1 + 1 := by omega
    cases o2
    · go_wp2_with (go_at_call 58; (with_reducible refine (HO2.out _).mono ?_); rintro e w2 ⟨rfl, hS2⟩; have rX := (rX.alloc _).since hS2; have hT2 : Since wc w2 := (by (repeat (first | with_reducible (exact Since.refl _) | with_reducible assumption | with_reducible (refine Since.drew ?_) | with_reducible (refine Since.drewN ?_ _) | with_reducible (refine Since.alloc ?_ _) | (with_reducible (refine Since.setCell ?_ ?_ _); rotate_left; focus (first | (simp; done) | (simp; omega) | omega)) | (with_reducible (refine Since.trans ?_ (by with_reducible assumption)))))); have hM := hM.since hT2; have hS := hS.trans hT2; have rR := rR.since hT2; have hz := Nat.le_trans hz hT2.below.size; clear hT2 hS2)
      go_meet
      case rel => exact ⟨_, Nat.le_succ_of_le hn, by rw [show [] ++ pts o1 ax ay ++ pts false bx bz = [] ++ pts o1 ax ay ++ [] by rfl, List.append_nil]; exact hM, hS, rR, hz, rX⟩
    · go_wp2_with (first | (go_at_call 58; (with_reducible refine (HO2.out _).mono ?_); rintro e w2 ⟨rfl, hS2⟩; have rX := (rX.alloc _).since hS2; have hE := (prow _ wc.heap.size rfl _ bx bz).since hS2; obtain ⟨e1, e2, e3⟩ := pcells hE; clear hE; have hT2 : Since wc w2 := (by (repeat (first | with_reducible (exact Since.refl _) | with_reducible assumption | with_reducible (refine Since.drew ?_) | with_reducible (refine Since.drewN ?_ _) | with_reducible (refine Since.alloc ?_ _) | (with_reducible (refine Since.setCell ?_ ?_ _); rotate_left; focus (first | (simp; done) | (simp; omega) | omega)) | (with_reducible (refine Since.trans ?_ (by with_reducible assumption)))))); have hM := hM.since hT2; have hS := hS.trans hT2; have rR := rR.since hT2; have hz := Nat.le_trans hz hT2.below.size; clear hT2 hS2) | (at_mapUpdate; refine wpList_mapUpdate_own _ rfl _ _ _ 40 rfl 34 42 lawPt Tryz.underlying40 (unitElem (H := Unit)) (w.heap.size + 1 + 1 + 1) n _ rfl hM (by unfold maxLen; omega) _ _ _ rfl rfl (HK2.out) _ [] unitElem_mk ?_; intro v2 hown hgr))
      go_meet
      case rel => exact ⟨_, Nat.succ_le_succ hn, by show World.ownsMap _ _ _ _ _ _ (setOf (.agg []) (kL ([] ++ pts o1 ax ay ++ [(bx, bz)]))); rw [kL_snoc]; exact hown, since_grown hS hgr (fun k hk => by injection hk with hk; omega), rR.grown hgr hb0, Nat.le_trans hz hgr.size, rX.grown hgr hb1⟩
  obtain ⟨n, hn, hM, hS, rR, hz, rX⟩ := hcut
  clear rX
  go_wp2_with fail
  rw [rounds_succ]
  go_wp2_with fail
  rw [rounds_succ]
  go_wp2_with fail
  refine wp_named fun wn hwn => ?_
  have rX : Row wn wc.heap.size 8 (Xf ⟨cx, cy, dx, dz⟩ ⟨ax, ay, bx, bz⟩) := by subst hwn; exact HX2.out wc _ rfl _
  have hT : Since wc wn := by subst hwn; (repeat (first | with_reducible (exact Since.refl _) | with_reducible assumption | with_reducible (refine Since.drew ?_) | with_reducible (refine Since.drewN ?_ _) | with_reducible (refine Since.alloc ?_ _) | (with_reducible (refine Since.setCell ?_ ?_ _); rotate_left; focus (first | (simp; done) | (simp; omega) | omega)) | (with_reducible (refine Since.trans ?_ (by with_reducible assumption)))))
  have hM := hM.since hT
  have hS := hS.trans hT
  have rR := rR.since hT
  have hz9 := Nat.le_trans hz hT.below.size
  clear hT hwn
  generalize wc.heap.size = xb at *
  obtain ⟨x1, x2, x3, x4, x5⟩ := xcells rX
  refine wp_loop_rounds 3 ?_
  rw [rounds_succ]
  go_upto_block 3 with fail
  go_cut [] (fun wx => ∃ n : Nat, n ≤ 3 ∧ MapOf wx (w.heap.size + 1 + 1 + 1) n ([] ++ pts o1 ax ay ++ pts o2 bx bz ++ pts o3 cx cy) ∧ Since w wx ∧ Row wx (w.heap.size + 1 + 1) 6 (Cf cpNone) ∧ w.heap.size + 4 ≤ wx.heap.size ∧ Row wx (xb) 8 (Xf ⟨cx, cy, dx, dz⟩ ⟨ax, ay, bx, bz⟩))
  case first =>
    have hb0 : w.heap.size + 1 + 1 ≠ w.heap.size + 1 + 1 + 1 := by omega
    have hb1 : xb ≠ w.heap.size + 1 + 1 + 1 := by omega
    cases o3
    · go_wp2_with (go_at_call 58; (with_reducible refine (HO3.out _).mono ?_); rintro e w3 ⟨rfl, hS3⟩; have rX := (rX.alloc _).since hS3; have hT3 : Since wn w3 := (by (repeat (first | with_reducible (exact Since.refl _) | with_reducible assumption | with_reducible (refine Since.drew ?_) | with_reducible (refine Since.drewN ?_ _) | with_reducible (refine Since.alloc ?_ _) | (with_reducible (refine Since.setCell ?_ ?_ _); rotate_left; focus (first | (simp; done) | (simp; omega) | omega)) | (with_reducible (refine Since.trans ?_ (by with_reducible assumption)))))); have hM := hM.since hT3; have hS := hS.trans hT3; have rR := rR.since hT3; have hz := Nat.le_trans hz9 hT3.below.size; clear hT3 hS3)
      go_meet
      case rel => exact ⟨_, Nat.le_succ_of_le hn, by rw [show [] ++ pts o1 ax ay ++ pts o2 bx bz ++ pts false cx cy = [] ++ pts o1 ax ay ++ pts o2 bx bz ++ [] by rfl, List.append_nil]; exact hM, hS, rR, hz, rX⟩
    · go_wp2_with (first | (go_at_call 58; (with_reducible refine (HO3.out _).mono ?_); rintro e w3 ⟨rfl, hS3⟩; have rX := (rX.alloc _).since hS3; have hE := (prow _ wn.heap.size rfl _ cx cy).since hS3; obtain ⟨e1, e2, e3⟩ := pcells hE; clear hE; have hT3 : Since wn w3 := (by (repeat (first | with_reducible (exact Since.refl _) | with_reducible assumption | with_reducible (refine Since.drew ?_) | with_reducible (refine Since.drewN ?_ _) | with_reducible (refine Since.alloc ?_ _) | (with_reducible (refine Since.setCell ?_ ?_ _); rotate_left; focus (first | (simp; done) | (simp; omega) | omega)) | (with_reducible (refine Since.trans ?_ (by with_reducible assumption)))))); have hM := hM.since hT3; have hS := hS.trans hT3; have rR := rR.since hT3; have hz := Nat.le_trans hz9 hT3.below.size; clear hT3 hS3) | (at_mapUpdate; refine wpList_mapUpdate_own _ rfl _ _ _ 40 rfl 34 42 lawPt Tryz.underlying40 (unitElem (H := Unit)) (w.heap.size + 1 + 1 + 1) n _ rfl hM (by unfold maxLen; omega) _ _ _ rfl rfl (HK3.out) _ [] unitElem_mk ?_; intro v3 hown hgr))
      go_meet
      case rel => exact ⟨_, Nat.succ_le_succ hn, by show World.ownsMap _ _ _ _ _ _ (setOf (.agg []) (kL ([] ++ pts o1 ax ay ++ pts o2 bx bz ++ [(cx, cy)]))); rw [kL_snoc]; exact hown, since_grown hS hgr (fun k hk => by injection hk with hk; omega), rR.grown hgr hb0, Nat.le_trans hz hgr.size, rX.grown hgr hb1⟩
  obtain ⟨n, hn, hM, hS, rR, hz, rX⟩ := hcut
  obtain ⟨x1, x2, x3, x4, x5⟩ := xcells rX
  go_wp2_with fail
  rw [rounds_succ]
  go_upto_block 3 with fail
  go_cut [] (fun wx => ∃ n : Nat, n ≤ 4 ∧ MapOf wx (w.heap.size + 1 + 1 + 1) n ([] ++ pts o1 ax ay ++ pts o2 bx bz ++ pts o3 cx cy ++ pts o4 dx dz) ∧ Since w wx ∧ Row wx (w.heap.size + 1 + 1) 6 (Cf cpNone) ∧ w.heap.size + 4 ≤ wx.heap.size ∧ Row wx (xb) 8 (Xf ⟨cx, cy, dx, dz⟩ ⟨ax, ay, bx, bz⟩))
  case first =>
    have hb0 : w.heap.size + 1 + 1 ≠ w.heap.size + 1 + 1 + 1 := by omega
    have hb1 : xb ≠ w.heap.size + 1 + 1 + 1 := by omega
    cases o4
    · go_wp2_with (go_at_call 58; (with_reducible refine (HO4.out _).mono ?_); rintro e w4 ⟨rfl, hS4⟩; have rX := (rX.alloc _).since hS4; have hT4 : Since wc w4 := (by (repeat (first | with_reducible (exact Since.refl _) | with_reducible assumption | with_reducible (refine Since.drew ?_) | with_reducible (refine Since.drewN ?_ _) | with_reducible (refine Since.alloc ?_ _) | (with_reducible (refine Since.setCell ?_ ?_ _); rotate_left; focus (first | (simp; done) | (simp; omega) | omega)) | (with_reducible (refine Since.trans ?_ (by with_reducible assumption)))))); have hM := hM.since hT4; have hS := hS.trans hT4; have rR := rR.since hT4; have hz := Nat.le_trans hz hT4.below.size; clear hT4 hS4)
      go_meet
      case rel => exact ⟨_, Nat.le_succ_of_le hn, by rw [show [] ++ pts o1 ax ay ++ pts o2 bx bz ++ pts o3 cx cy ++ pts false dx dz = [] ++ pts o1 ax ay ++ pts o2 bx bz ++ pts o3 cx cy ++ [] by rfl, List.append_nil]; exact hM, hS, rR, hz, rX⟩
    · go_wp2_with (first | (go_at_call 58; (with_reducible refine (HO4.out _).mono ?_); rintro e w4 ⟨rfl, hS4⟩; have rX := (rX.alloc _).since hS4; have hE := (prow _ wc.heap.size rfl _ dx dz).since hS4; obtain ⟨e1, e2, e3⟩ := pcells hE; clear hE; have hT4 : Since wc w4 := (by (repeat (first | with_reducible (exact Since.refl _) | with_reducible assumption | with_reducible (refine Since.drew ?_) | with_reducible (refine Since.drewN ?_ _) | with_reducible (refine Since.alloc ?_ _) | (with_reducible (refine Since.setCell ?_ ?_ _); rotate_left; focus (first | (simp; done) | (simp; omega) | omega)) | (with_reducible (refine Since.trans ?_ (by with_reducible assumption)))))); have hM := hM.since hT4; have hS := hS.trans hT4; have rR := rR.since hT4; have hz := Nat.le_trans hz hT4.below.size; clear hT4 hS4) | (at_mapUpdate; refine wpList_mapUpdate_own _ rfl _ _ _ 40 rfl 34 42 lawPt Tryz.underlying40 (unitElem (H := Unit)) (w.heap.size + 1 + 1 + 1) n _ rfl hM (by unfold maxLen; omega) _ _ _ rfl rfl (HK4.out) _ [] unitElem_mk ?_; intro v4 hown hgr))
      go_meet
      case rel => exact ⟨_, Nat.succ_le_succ hn, by show World.ownsMap _ _ _ _ _ _ (setOf (.agg []) (kL ([] ++ pts o1 ax ay ++ pts o2 bx bz ++ pts o3 cx cy ++ [(dx, dz)]))); rw [kL_snoc]; exact hown, since_grown hS hgr (fun k hk => by injection hk with hk; omega), rR.grown hgr hb0, Nat.le_trans hz hgr.size, rX.grown hgr hb1⟩
  obtain ⟨n, hn, hM, hS, rR, hz, rX⟩ := hcut
  have hW : WfL ([] ++ pts o1 ax ay ++ pts o2 bx bz ++ pts o3 cx cy ++ pts o4 dx dz) := (((wfl_nil.app (wfl_pts o1 HG1.out)).app (wfl_pts o2 HG2.out)).app (wfl_pts o3 HG3.out)).app (wfl_pts o4 HG4.out)
  have HR2 : Hid ((touchOf ([] ++ pts o1 ax ay ++ pts o2 bx bz ++ pts o3 cx cy ++ pts o4 dx dz)).v = RV) := Lib.hid (by rw [List.nil_append]; exact HRES.out)
  generalize [] ++ pts o1 ax ay ++ pts o2 bx bz ++ pts o3 cx cy ++ pts o4 dx dz = LL at *
  clear rX hi0 hi1 hj0 hj1 HO1 HO2 HO3 HO4 HK1 HK2 HK3 HK4 HG1 HG2 HG3 HG4 HX1 HX2 HRES
  have HW := Lib.hid hW
  clear hW
  obtain ⟨r1, r2, r3, r4, r5, r6, r7⟩ := ccells rR
  have rF := rR.2.1
  have f0 := rF 0; have f1 := rF 1; have f2 := rF 2; have f3 := rF 3; have f4 := rF 4; have f5 := rF 5
  unfold cpNone at r1 r2 r3 r4 r5 r6
  simp only at r1 r2 r3 r4 r5 r6
  clear rF
  go_wp2_with fail
  rw [rounds_succ]
  go_wp2_with fail
  rw [rounds_succ]
  by_cases h2 : 2 ≤ Maps.size (setOf (H := Unit) (.agg []) (kL LL))
  · have hd : decide ((1 : Int) < (Maps.size (setOf (H := Unit) (.agg []) (kL LL)) : Int)) = true := by simp; omega
    go_wp2_with (first | (at_len; refine wpList_len_own _ rfl _ 40 rfl 34 42 Tryz.underlying40 (unitElem (H := Unit)) (w.heap.size + 1 + 1 + 1) n _ rfl hM ?_))
    obtain ⟨m, hm⟩ : ∃ m, m = Maps.size (setOf (H := Unit) (.agg []) (kL LL)) := ⟨_, rfl⟩
    have hno : touchOf LL = ⟨2, 0, 0, 0⟩ := by
      rcases touch_cases LL with ⟨e, _⟩ | ⟨e, he, e1⟩ | e
      · rw [e] at h2; rw [size_nil] at h2; omega
      · by_cases hall : ∀ x ∈ LL, x = e
        · rw [size_one HW.out he hall] at h2; omega
        · obtain ⟨z, hz1⟩ := Classical.not_forall.1 hall
          obtain ⟨hz1, hz2⟩ := Classical.not_imp.1 hz1
          exact touch_two hz1 he hz2
      · exact e
    refine ret_agg (P := Tryz.prog) Tryz.results36 rfl (cp_range (cput rR ⟨2, 0, 0, 0⟩)) Tryz.underlying48 rfl (by kernel_rfl) rfl ⟨by rw [← HR2.out, hno]; rfl, ?_⟩
    (repeat (first | with_reducible (exact Since.refl _) | with_reducible assumption | with_reducible (refine Since.drew ?_) | with_reducible (refine Since.drewN ?_ _) | with_reducible (refine Since.alloc ?_ _) | (with_reducible (refine Since.setCell ?_ ?_ _); rotate_left; focus (first | (simp; done) | (simp; omega) | omega)) | (with_reducible (refine Since.trans ?_ (by with_reducible assumption)))))
  · have hd : decide ((1 : Int) < (Maps.size (setOf (H := Unit) (.agg []) (kL LL)) : Int)) = false := by simp; omega
    have hone : ∀ x ∈ LL, ∀ y ∈ LL, x = y := fun x hx y hy => by
      by_cases e : x = y
      · exact e
      · exact absurd (size_two (u := .agg []) HW.out hx hy e) h2
    have HONE := Lib.hid hone
    clear hone h2
    go_wp2_with (first | (at_len; refine wpList_len_own _ rfl _ 40 rfl 34 42 Tryz.underlying40 (unitElem (H := Unit)) (w.heap.size + 1 + 1 + 1) n _ rfl hM ?_) | (at_range; refine wpList_range_own _ rfl _ 40 rfl 34 42 lawPt Tryz.underlying40 (unitElem (H := Unit)) (w.heap.size + 1 + 1 + 1) n _ rfl hM ?_; intro v9 hrg hgr9 hsz9))
    go_frame
    have hT9 : Since wc v9 := since_grown (Since.refl _) hgr9 (fun k hk => by cases hk)
    have rR := rR.since hT9
    have hS := hS.trans hT9
    have hrb : w.heap.size + 4 ≤ wc.heap.size := hz
    have hz := Nat.le_trans hz hT9.below.size
    clear hT9 hgr9 hsz9 hM r1 r2 r3 r4 r5 r6 r7 f0 f1 f2 f3 f4 f5
    refine wp_loop_rounds 2 ?_
    rw [rounds_succ]
    go_wp2_with (first | (at_next; refine wpList_next_ranges _ rfl _ rfl 34 lawPt (unitElem (H := Unit)) (fun x : Int × Int => Pt x.1 x.2) (fun _ : Unit => .agg #[]) invK invV (w.heap.size + 1 + 1 + 1) wc.heap.size n _ _ _ rfl hrg ?_ ?_))
    · intro hc0 hl0
      have hnil : LL = [] := by
        cases LL with
        | nil => rfl
        | cons a r =>
          have h1 := hl0 (kP a.1 a.2)
          rw [(has_kL HW.out (HW.out a (by simp)).1 (HW.out a (by simp)).2).2 (by simp)] at h1
          cases h1
      have hRV : RV = cpNone.v := by rw [← HR2.out, hnil]; rfl
      have HRV := Lib.hid hRV
      clear hRV hnil hl0 hc0 hrg HR2 HONE HW
      obtain ⟨r1, r2, r3, r4, r5, r6, r7⟩ := ccells rR
      have rF := rR.2.1
      have f0 := rF 0; have f1 := rF 1; have f2 := rF 2; have f3 := rF 3; have f4 := rF 4; have f5 := rF 5
      clear rF
      go_wp2
      refine ret_agg (P := Tryz.prog) Tryz.results36 rfl (cp_range (cput rR cpNone)) Tryz.underlying48 rfl (by kernel_rfl) rfl ⟨by rw [HRV.out]; rfl, ?_⟩
      (repeat (first | with_reducible (exact Since.refl _) | with_reducible assumption | with_reducible (refine Since.drew ?_) | with_reducible (refine Since.drewN ?_ _) | with_reducible (refine Since.alloc ?_ _) | (with_reducible (refine Since.setCell ?_ ?_ _); rotate_left; focus (first | (simp; done) | (simp; omega) | omega)) | (with_reducible (refine Since.trans ?_ (by with_reducible assumption)))))
    · intro px py kl y1 y2 w5 cnt5 hkey hlk hv hat hrg5 hlt hgr5 hsz5 hen
      have hx := mem_of_left (x := (px, py)) HW.out hkey hlk
      have hwx := HW.out (px, py) hx
      have hRV : RV = (⟨1, px, py, 1⟩ : Cp).v := by rw [← HR2.out, touch_one hx (fun z hz => HONE.out z hz (px, py) hx)]
      have HRV := Lib.hid hRV
      have i1 := inw_wf hwx.1
      have i2 := inw_wf hwx.2
      clear hRV hkey hlk hv hat hlt hx hwx HW HONE HR2 hrg hrg5
      simp only at i1 i2
      unfold Pt at hen
      have hof1 := Lib.hid (fun w => wide_of px i1 w)
      have hof2 := Lib.hid (fun w => wide_of py i2 w)
      clear i1 i2
      have rR := rR.grown hgr5 (by omega)
      have hS := since_grown hS hgr5 (fun k hk => by injection hk with hk; omega)
      have hz := Nat.le_trans hz hgr5.size
      clear hgr5 hsz5
      go_wp2_with fail
      refine wp_named fun w6 hw6 => ?_
      have rP : Row w6 w5.heap.size 2 (Pf px py) := by subst hw6; exact prow _ _ rfl _ _ _
      have rR : Row w6 (w.heap.size + 1 + 1) 6 (Cf cpNone) := by subst hw6; exact rR.alloc _
      have hS0 : Since w w6 := by subst hw6; exact hS.alloc _
      clear hw6 hS
      obtain ⟨r1, r2, r3, r4, r5, r6, r7⟩ := ccells rR
      obtain ⟨p1, p2, p3⟩ := pcells rP
      have rF := rR.2.1
      have f0 := rF 0; have f1 := rF 1; have f2 := rF 2; have f3 := rF 3; have f4 := rF 4; have f5 := rF 5
      clear rF rP rR
      have e1 : w5.heap.size ≠ w.heap.size + 1 + 1 := by omega
      have tok8 : True := trivial
      have tok9 : True := trivial
      (refine wp_named fun wr1 hwr1 => ?_; go_region_held3 (fun w' => (∀ b o, b < wr1.heap.size → b ≠ (w.heap.size + 1 + 1) → w'.cell? ⟨b, o, none⟩ = wr1.cell? ⟨b, o, none⟩) ∧ (∀ b o, b < wr1.heap.size → w'.frozen? ⟨b, o, none⟩ = wr1.frozen? ⟨b, o, none⟩) ∧ (∀ k, k < wr1.heap.size → k < w'.heap.size) ∧ Since w w' ∧ (∀ o, o < 6 → w'.cell? ⟨(w.heap.size + 1 + 1), o, none⟩ = some (cellD w' ((w.heap.size + 1 + 1)) o))) ((subst hwr1; (repeat with_reducible (refine sx_set (by omega) ?_ _ _)); first | with_reducible assumption | (refine sx_step (by first | assumption | omega | (simp; done) | (simp; omega)) (by with_reducible assumption) ?_; first | with_reducible assumption | (repeat (first | with_reducible (exact Since.refl _) | with_reducible assumption | with_reducible (refine Since.drew ?_) | with_reducible (refine Since.drewN ?_ _) | with_reducible (refine Since.alloc ?_ _) | (with_reducible (refine Since.setCell ?_ ?_ _); rotate_left; focus (first | (simp; done) | (simp; omega) | omega))))) | (refine sx_step (by first | assumption | omega | (simp; done) | (simp; omega)) (sx_start (by (repeat (first | with_reducible (exact Since.refl _) | with_reducible assumption | with_reducible (refine Since.drew ?_) | with_reducible (refine Since.drewN ?_ _) | with_reducible (refine Since.alloc ?_ _) | (with_reducible (refine Since.setCell ?_ ?_ _); rotate_left; focus (first | (simp; done) | (simp; omega) | omega)) | (with_reducible (refine Since.trans ?_ (by with_reducible assumption)))))) (fun o ho => by (have ho' : o = 0 ∨ o = 1 ∨ o = 2 ∨ o = 3 ∨ o = 4 ∨ o = 5 := by omega); rcases ho' with rfl | rfl | rfl | rfl | rfl | rfl <;> (first | (simp [go_sem]; done) | simp_all))) ?_; first | with_reducible assumption | (repeat (first | with_reducible (exact Since.refl _) | with_reducible assumption | with_reducible (refine Since.drew ?_) | with_reducible (refine Since.drewN ?_ _) | with_reducible (refine Since.alloc ?_ _) | (with_reducible (refine Since.setCell ?_ ?_ _); rotate_left; focus (first | (simp; done) | (simp; omega) | omega))))))) (first | (go_at_call 59; have _t := tok8; (with_reducible refine (hof1.out _).mono ?_); rintro e w8 ⟨rfl, hS8⟩; have hZ := hS8.below.size; (try simp at hZ); clear tok8) | (go_at_call 59; have _t := tok9; (with_reducible refine (hof2.out _).mono ?_); rintro e w9 ⟨rfl, hS9⟩; have hZ := hS9.below.size; (try simp at hZ); clear tok9)); all_goals (rename_i hHeld; obtain ⟨hcR1, hfR1, hzR1, hR1, hoR1⟩ := hHeld; have hiR := fun o ho => there_of (hoR1 o ho); (try simp only [there_set] at hiR); clear hoR1; subst hwr1))
      all_goals go_wp2
      all_goals refine ret_agg (P := Tryz.prog) Tryz.results36 rfl (cp_stored hiR ⟨1, px, py, 1⟩) Tryz.underlying48 rfl (by kernel_rfl) rfl ⟨by rw [HRV.out]; rfl, ?_⟩
      all_goals ((repeat (first | with_reducible (exact Since.refl _) | with_reducible assumption | with_reducible (refine Since.drew ?_) | with_reducible (refine Since.drewN ?_ _) | with_reducible (refine Since.alloc ?_ _) | (with_reducible (refine Since.setCell ?_ ?_ _); rotate_left; focus (first | (simp; done) | (simp; omega) | omega)) | (with_reducible (refine Since.trans ?_ (by with_reducible assumption))))))
end Go.Proofs.YtckochcocflleaaGreat
