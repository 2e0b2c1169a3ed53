/-
  Layer 13: pieces of a contour in memory; 'both', 'inRange', 'splits', walked.
-/
import Derived.Test.YtdbenpncnkfliaaGaI
import Derived.Shelf.Abstract
namespace Go.Proofs.Ytdbenpncnkfliaa
open Go.RowKit
set_option linter.unusedVariables false

/-- A piece's numbers. -/
structure Sg where
  (ax ay cx cy bx bz : Int) (k : Bool)
def Sg.v (s : Sg) : Value := .agg #[.int .i64 s.ax, .int .i64 s.ay, .int .i64 s.cx, .int .i64 s.cy, .int .i64 s.bx, .int .i64 s.bz, .bool s.k]
def Sg.cells (s : Sg) : Array Value := #[.int .i64 s.ax, .int .i64 s.ay, .int .i64 s.cx, .int .i64 s.cy, .int .i64 s.bx, .int .i64 s.bz, .bool s.k]
def Sg.wf (s : Sg) : Prop := InP s.ax s.ay ∧ InP s.cx s.cy ∧ InP s.bx s.bz
/-- A block holds a piece. -/
def SegAt (w : World) (b : Nat) (s : Sg) : Prop := w.cell? ⟨b, 0, none⟩ = some (.int .i64 s.ax) ∧ w.cell? ⟨b, 1, none⟩ = some (.int .i64 s.ay) ∧ w.cell? ⟨b, 2, none⟩ = some (.int .i64 s.cx) ∧ w.cell? ⟨b, 3, none⟩ = some (.int .i64 s.cy) ∧ w.cell? ⟨b, 4, none⟩ = some (.int .i64 s.bx) ∧ w.cell? ⟨b, 5, none⟩ = some (.int .i64 s.bz) ∧ w.cell? ⟨b, 6, none⟩ = some (.bool s.k) ∧ b < w.heap.size
section
variable {w w' : World} {b : Nat} {s : Sg}
theorem SegAt.since (h : SegAt w b s) (k : Since w w') : SegAt w' b s := by
  obtain ⟨h1, h2, h3, h4, h5, h6, h7, h8⟩ := h
  exact ⟨(k.1 _ _ h8).trans h1, (k.1 _ _ h8).trans h2, (k.1 _ _ h8).trans h3, (k.1 _ _ h8).trans h4, (k.1 _ _ h8).trans h5, (k.1 _ _ h8).trans h6, (k.1 _ _ h8).trans h7, k.2.2.1 _ h8⟩
theorem SegAt.alloc (h : SegAt w b s) (o : Obj) : SegAt (w.alloc o) b s := h.since ((Since.refl w).alloc o)
theorem seg_new (w : World) (b : Nat) (hb : b = w.heap.size) (s : Sg) (t : TypeId) : SegAt (w.alloc (.cells #[.int .i64 s.ax, .int .i64 s.ay, .int .i64 s.cx, .int .i64 s.cy, .int .i64 s.bx, .int .i64 s.bz, .bool s.k] t)) b s := by
  subst hb
  refine ⟨?_, ?_, ?_, ?_, ?_, ?_, ?_, by simp⟩ <;> (rw [World.cell?_alloc_new]; rfl)
end
/-- A block holds one value. -/
def OneAt (w : World) (b : Nat) (v : Value) : Prop := w.cell? ⟨b, 0, none⟩ = some v ∧ b < w.heap.size
theorem OneAt.since {w w' : World} {b : Nat} {v : Value} (h : OneAt w b v) (k : Since w w') : OneAt w' b v := ⟨(k.1 _ _ h.2).trans h.1, k.2.2.1 _ h.2⟩
theorem OneAt.alloc {w : World} {b : Nat} {v : Value} (h : OneAt w b v) (o : Obj) : OneAt (w.alloc o) b v := h.since ((Since.refl w).alloc o)
theorem one_new (w : World) (b : Nat) (hb : b = w.heap.size) (v : Value) (t : TypeId) : OneAt (w.alloc (.cells #[v] t)) b v := by
  subst hb
  exact ⟨by rw [World.cell?_alloc_new]; rfl, by simp⟩

theorem enters71 : ∀ args w, (callFunc 72 args).run Try.prog w = .ok (.enter 72 args) w := enters_of Try.func72 (by kernel_rfl) rfl
theorem enters72 : ∀ args w, (callFunc 73 args).run Try.prog w = .ok (.enter 73 args) w := enters_of Try.func73 (by kernel_rfl) rfl
theorem qu_axisX (x y : Int) (w : World) : Calls Try.prog 72 #[Pt x y] w fun e w' => e = .returned (.int .i64 x) ∧ Since w w' := by
  unfold Pt
  go_enter Try.func72, Try.ntmps72
  go_wp2
  go_ret
  exact ⟨rfl, by (repeat (first | with_reducible (exact Since.refl _) | with_reducible assumption | with_reducible (refine Since.drew ?_) | with_reducible (refine Since.drewN ?_ _) | with_reducible (refine Since.alloc ?_ _) | (with_reducible (refine Since.setCell ?_ ?_ _); rotate_left; focus (first | (simp; done) | (simp; omega) | omega)) | (with_reducible (refine Since.trans ?_ (by with_reducible assumption)))))⟩
theorem qu_axisY (x y : Int) (w : World) : Calls Try.prog 73 #[Pt x y] w fun e w' => e = .returned (.int .i64 y) ∧ Since w w' := by
  unfold Pt
  go_enter Try.func73, Try.ntmps73
  go_wp2
  go_ret
  exact ⟨rfl, by (repeat (first | with_reducible (exact Since.refl _) | with_reducible assumption | with_reducible (refine Since.drew ?_) | with_reducible (refine Since.drewN ?_ _) | with_reducible (refine Since.alloc ?_ _) | (with_reducible (refine Since.setCell ?_ ?_ _); rotate_left; focus (first | (simp; done) | (simp; omega) | omega)) | (with_reducible (refine Since.trans ?_ (by with_reducible assumption)))))⟩
set_option maxHeartbeats 4000000 in
theorem qu_both (k : Nat) (cap : Array Value) (X Y : Int) (w : World) (hE : ∀ args w, (callFunc k args).run Try.prog w = .ok (.enter k args) w)
    (hX : ∀ w1, Since w w1 → Calls Try.prog k (#[.func (.func 72) #[] #[]] ++ cap) w1 fun e w2 => e = .returned (.int .i64 X) ∧ Since w1 w2)
    (hY : ∀ w1, Since w w1 → Calls Try.prog k (#[.func (.func 73) #[] #[]] ++ cap) w1 fun e w2 => e = .returned (.int .i64 Y) ∧ Since w1 w2) :
    Calls Try.prog 67 #[.func (.func k) #[] cap] w fun e w' => e = .returned (Pt X Y) ∧ Since w w' := by
  have HX := Lib.hid hX
  have HY := Lib.hid hY
  clear hX hY
  unfold Pt
  go_enter Try.func67, Try.ntmps67
  go_wp2_with (first | (refine (Calls.mono (HX.out _ (by (repeat (first | with_reducible (exact Since.refl _) | with_reducible assumption | with_reducible (refine Since.drew ?_) | with_reducible (refine Since.drewN ?_ _) | with_reducible (refine Since.alloc ?_ _) | (with_reducible (refine Since.setCell ?_ ?_ _); rotate_left; focus (first | (simp; done) | (simp; omega) | omega)) | (with_reducible (refine Since.trans ?_ (by with_reducible assumption))))))) ?_); rintro e w1 ⟨rfl, hS1⟩; have hZ := (zero2_new w _ rfl _).since hS1; have hS : Since w w1 := (by (repeat (first | with_reducible (exact Since.refl _) | with_reducible assumption | with_reducible (refine Since.drew ?_) | with_reducible (refine Since.drewN ?_ _) | with_reducible (refine Since.alloc ?_ _) | (with_reducible (refine Since.setCell ?_ ?_ _); rotate_left; focus (first | (simp; done) | (simp; omega) | omega)) | (with_reducible (refine Since.trans ?_ (by with_reducible assumption)))))); clear hS1) | (refine (Calls.mono (HY.out _ (by (repeat (first | with_reducible (exact Since.refl _) | with_reducible assumption | with_reducible (refine Since.drew ?_) | with_reducible (refine Since.drewN ?_ _) | with_reducible (refine Since.alloc ?_ _) | (with_reducible (refine Since.setCell ?_ ?_ _); rotate_left; focus (first | (simp; done) | (simp; omega) | omega)) | (with_reducible (refine Since.trans ?_ (by with_reducible assumption))))))) ?_); rintro e w2 ⟨rfl, hS2⟩; have hZ2 := hZ.since hS2; have hS3 := hS.trans hS2; clear hZ hS hS2; obtain ⟨⟨z1, z2, z3⟩, zF⟩ := hZ2; have zF0 := zF 0; have zF1 := zF 1; clear zF))
  refine bodyPost_ret (by simp only [results, Try.results67]; go_simp) rfl ⟨rfl, ?_⟩
  (repeat (first | with_reducible (exact Since.refl _) | with_reducible assumption | with_reducible (refine Since.drew ?_) | with_reducible (refine Since.drewN ?_ _) | with_reducible (refine Since.alloc ?_ _) | (with_reducible (refine Since.setCell ?_ ?_ _); rotate_left; focus (first | (simp; done) | (simp; omega) | omega)) | (with_reducible (refine Since.trans ?_ (by with_reducible assumption)))))

def inR (s : Sg) : Bool := goodB s.ax s.ay && goodB s.bx s.bz && (!s.k || goodB s.cx s.cy)
set_option maxHeartbeats 4000000 in
theorem qu_inRange (s : Sg) (h : s.wf) (w : World) : Calls Try.prog 69 #[s.v] w fun e w' => e = .returned (.bool (inR s)) ∧ Since w w' := by
  obtain ⟨h1, h2, h3⟩ := h
  have g2 := fun w b hb t => good2 w b hb s.ax s.ay s.bx s.bz t h1 h3
  have g1 := fun w b hb t => good1 w b hb s.cx s.cy t h2
  obtain ⟨ax, ay, cx, cy, bx, bz, k⟩ := s
  unfold inR Sg.v
  simp only at *
  generalize (goodB ax ay && goodB bx bz) = G at *
  generalize goodB cx cy = G' at *
  have H2 := Lib.hid g2
  have H1 := Lib.hid g1
  clear g1 g2 h1 h2 h3
  cases G <;> cases k
  all_goals
    go_enter Try.func69, Try.ntmps69
    go_wp2_with (first | (go_at_call 57; (with_reducible refine (H2.out _ _ (by simp) _).mono ?_); rintro e w1 ⟨rfl, hS1⟩; have hX1 := (((seg_new w _ rfl ⟨ax, ay, cx, cy, bx, bz, _⟩ _).alloc _)).since hS1; have hS : Since w w1 := (by (repeat (first | with_reducible (exact Since.refl _) | with_reducible assumption | with_reducible (refine Since.drew ?_) | with_reducible (refine Since.drewN ?_ _) | with_reducible (refine Since.alloc ?_ _) | (with_reducible (refine Since.setCell ?_ ?_ _); rotate_left; focus (first | (simp; done) | (simp; omega) | omega)) | (with_reducible (refine Since.trans ?_ (by with_reducible assumption)))))); clear hS1; obtain ⟨s1, s2, s3, s4, s5, s6, s7, s8⟩ := hX1; simp only at s1 s2 s3 s4 s5 s6 s7) | (go_at_call 57; (with_reducible refine (H1.out _ _ (by simp) _).mono ?_); rintro e w2 ⟨rfl, hS2⟩; have hS3 : Since w w2 := (by (repeat (first | with_reducible (exact Since.refl _) | with_reducible assumption | with_reducible (refine Since.drew ?_) | with_reducible (refine Since.drewN ?_ _) | with_reducible (refine Since.alloc ?_ _) | (with_reducible (refine Since.setCell ?_ ?_ _); rotate_left; focus (first | (simp; done) | (simp; omega) | omega)) | (with_reducible (refine Since.trans ?_ (by with_reducible assumption))))))))
    go_ret
    exact ⟨by first | rfl | simp, by (repeat (first | with_reducible (exact Since.refl _) | with_reducible assumption | with_reducible (refine Since.drew ?_) | with_reducible (refine Since.drewN ?_ _) | with_reducible (refine Since.alloc ?_ _) | (with_reducible (refine Since.setCell ?_ ?_ _); rotate_left; focus (first | (simp; done) | (simp; omega) | omega)) | (with_reducible (refine Since.trans ?_ (by with_reducible assumption)))))⟩
end Go.Proofs.Ytdbenpncnkfliaa
