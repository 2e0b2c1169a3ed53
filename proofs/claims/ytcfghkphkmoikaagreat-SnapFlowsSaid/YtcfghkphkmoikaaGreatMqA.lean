/-
  Texts of this seat, put together: each with its own head.
-/
import Derived.Test.YtcfghkphkmoikaaGreatPxM
import Derived.Test.YtcfghkphkmoikaaGreatKitBut
import Derived.Test.YtcfghkphkmoikaaGreatKitB
import Derived.Test.YtcfghkphkmoikaaGreatMqG
import Derived.Test.YtcfghkphkmoikaaGreatKit
import Derived.Sort.Grow
import Derived.Maps.Own
import Derived.Deep.CutBlock
import Derived.Deep.DeepCutAuto

/-
  Layer 16: 'Of', 'compare' and the parts of a line's way, walked.
-/
namespace Go.Proofs.YtcfghkphkmoikaaGreat
set_option maxRecDepth 100000
open Go.RowKit
set_option linter.unusedVariables false

set_option maxHeartbeats 1000000 in
theorem px_of (x y : Int) (hx : -9223372036854775808 ≤ x ∧ x ≤ 9223372036854775775) (hy : -9223372036854775808 ≤ y ∧ y ≤ 9223372036854775775) (w : World) :
    Calls Tryz.prog 30 #[Pt x y] w fun e w' => e = .returned (Pt (pxI x) (pxI y)) ∧ Since w w' := by
  have u1 : IntKind.i64.wrap (x + 32) = x + 32 := IntWalk.i64_in _ (by omega)
  have u2 : IntKind.i64.wrap (y + 32) = y + 32 := IntWalk.i64_in _ (by omega)
  have u3 : IntKind.i64.wrap ((x + 32) / 64) = (x + 32) / 64 := IntWalk.i64_in _ (by omega)
  have u4 : IntKind.i64.wrap ((y + 32) / 64) = (y + 32) / 64 := IntWalk.i64_in _ (by omega)
  unfold Pt pxI
  go_enter Tryz.func30, Tryz.ntmps30
  go_wp2
  refine bodyPost_ret (by simp only [results, Tryz.results30]; go_simp) rfl ⟨rfl, ?_⟩
  (repeat (first | with_reducible (exact Since.refl _) | with_reducible assumption | with_reducible (refine Since.drew ?_) | with_reducible (refine Since.drewN ?_ _) | with_reducible (refine Since.alloc ?_ _) | (with_reducible (refine Since.setCell ?_ ?_ _); rotate_left; focus (first | (simp; done) | (simp; omega) | omega)) | (with_reducible (refine Since.trans ?_ (by with_reducible assumption)))))
theorem cmp_int (x y : Int) (w : World) :
    Calls Tryz.prog 55 #[.int .i64 x, .int .i64 y] w fun e w' => e = .returned (.int .i64 (cmpI x y)) ∧ w = w' := by
  rcases Int.lt_trichotomy x y with h | h | h
  · have E : cmpI x y = -1 := by unfold cmpI; rw [if_pos h]
    rw [E]; clear E
    go_enter Tryz.func55, Tryz.ntmps55
    go_wp2
    go_ret
    exact ⟨rfl, rfl⟩
  · subst h
    have E : cmpI x x = 0 := by unfold cmpI; simp
    rw [E]; clear E
    go_enter Tryz.func55, Tryz.ntmps55
    go_wp2
    go_ret
    exact ⟨rfl, rfl⟩
  · have E : cmpI x y = 1 := by unfold cmpI; rw [if_neg (by omega), if_pos h]
    have h' : ¬ x < y := by omega
    rw [E]; clear E
    go_enter Tryz.func55, Tryz.ntmps55
    go_wp2
    go_ret
    exact ⟨rfl, rfl⟩
set_option maxHeartbeats 1000000 in
theorem px_compare (n d m e : Int) (h1 : In64 (n * e)) (h2 : In64 (m * d)) (w : World) :
    Calls Tryz.prog 113 #[.agg #[.int .i64 n, .int .i64 d], .agg #[.int .i64 m, .int .i64 e]] w fun e' w' => e' = .returned (.int .i64 (cmpF n d m e)) ∧ Since w w' := by
  have u1 : IntKind.i64.wrap (n * e) = n * e := IntWalk.i64_in _ h1
  have u2 : IntKind.i64.wrap (m * d) = m * d := IntWalk.i64_in _ h2
  unfold cmpF
  go_enter Tryz.func113, Tryz.ntmps113
  go_wp2_with (go_at_call 55; refine (cmp_int _ _ _).mono ?_; rintro e w1 ⟨rfl, rfl⟩)
  go_ret
  exact ⟨rfl, by (repeat (first | with_reducible (exact Since.refl _) | with_reducible assumption | with_reducible (refine Since.drew ?_) | with_reducible (refine Since.drewN ?_ _) | with_reducible (refine Since.alloc ?_ _) | (with_reducible (refine Since.setCell ?_ ?_ _); rotate_left; focus (first | (simp; done) | (simp; omega) | omega)) | (with_reducible (refine Since.trans ?_ (by with_reducible assumption)))))⟩
def Stf (s : Stc) (j : Nat) : Value := if j = 0 then .int .i64 s.ln else if j = 1 then .int .i64 s.ld else if j = 2 then .int .i64 s.hn else if j = 3 then .int .i64 s.hd else if j = 4 then .bool s.lo else .bool s.ho
theorem strow (w : World) (b : Nat) (hb : b = w.heap.size) (t : TypeId) (s : Stc) : Row (w.alloc (.cells #[.int .i64 s.ln, .int .i64 s.ld, .int .i64 s.hn, .int .i64 s.hd, .bool s.lo, .bool s.ho] t)) b 6 (Stf s) := by
  subst hb
  refine Row.of_cells fun j hj => ?_
  have h : j = 0 ∨ j = 1 ∨ j = 2 ∨ j = 3 ∨ j = 4 ∨ j = 5 := by omega
  rcases h with rfl | rfl | rfl | rfl | rfl | rfl <;> rfl
theorem stcells {w : World} {b : Nat} {s : Stc} (h : Row w b 6 (Stf s)) : w.cell? ⟨b, 0, none⟩ = some (.int .i64 s.ln) ∧ w.cell? ⟨b, 1, none⟩ = some (.int .i64 s.ld) ∧ w.cell? ⟨b, 2, none⟩ = some (.int .i64 s.hn) ∧ w.cell? ⟨b, 3, none⟩ = some (.int .i64 s.hd) ∧ w.cell? ⟨b, 4, none⟩ = some (.bool s.lo) ∧ w.cell? ⟨b, 5, none⟩ = some (.bool s.ho) ∧ b < w.heap.size :=
  ⟨h.1 0 (by omega), h.1 1 (by omega), h.1 2 (by omega), h.1 3 (by omega), h.1 4 (by omega), h.1 5 (by omega), h.2.2⟩
section
variable {w : World} {b : Nat} {s : Stc}
theorem st_low (h : Row w b 6 (Stf s)) (n d : Int) (o : Bool) : Row (((w.setCell ⟨b, 0, none⟩ (.int .i64 n)).setCell ⟨b, 1, none⟩ (.int .i64 d)).setCell ⟨b, 4, none⟩ (.bool o)) b 6 (Stf ⟨n, d, s.hn, s.hd, o, s.ho⟩) := by
  refine (((h.set 0 _).set 1 _).set 4 _).congr fun j hj => ?_
  have hh : j = 0 ∨ j = 1 ∨ j = 2 ∨ j = 3 ∨ j = 4 ∨ j = 5 := by omega
  rcases hh with rfl | rfl | rfl | rfl | rfl | rfl <;> rfl
theorem st_high (h : Row w b 6 (Stf s)) (n d : Int) (o : Bool) : Row (((w.setCell ⟨b, 2, none⟩ (.int .i64 n)).setCell ⟨b, 3, none⟩ (.int .i64 d)).setCell ⟨b, 5, none⟩ (.bool o)) b 6 (Stf ⟨s.ln, s.ld, n, d, s.lo, o⟩) := by
  refine (((h.set 2 _).set 3 _).set 5 _).congr fun j hj => ?_
  have hh : j = 0 ∨ j = 1 ∨ j = 2 ∨ j = 3 ∨ j = 4 ∨ j = 5 := by omega
  rcases hh with rfl | rfl | rfl | rfl | rfl | rfl <;> rfl
theorem st_lo (h : Row w b 6 (Stf s)) (o : Bool) : Row (w.setCell ⟨b, 4, none⟩ (.bool o)) b 6 (Stf ⟨s.ln, s.ld, s.hn, s.hd, o, s.ho⟩) := by
  refine (h.set 4 _).congr fun j hj => ?_
  have hh : j = 0 ∨ j = 1 ∨ j = 2 ∨ j = 3 ∨ j = 4 ∨ j = 5 := by omega
  rcases hh with rfl | rfl | rfl | rfl | rfl | rfl <;> rfl
theorem st_ho (h : Row w b 6 (Stf s)) (o : Bool) : Row (w.setCell ⟨b, 5, none⟩ (.bool o)) b 6 (Stf ⟨s.ln, s.ld, s.hn, s.hd, s.lo, o⟩) := by
  refine (h.set 5 _).congr fun j hj => ?_
  have hh : j = 0 ∨ j = 1 ∨ j = 2 ∨ j = 3 ∨ j = 4 ∨ j = 5 := by omega
  rcases hh with rfl | rfl | rfl | rfl | rfl | rfl <;> rfl
theorem st_none (h : Row w b 6 (Stf s)) : Row ((w.setCell ⟨b, 2, none⟩ (.int .i64 (-1))).setCell ⟨b, 3, none⟩ (.int .i64 1)) b 6 (Stf ⟨s.ln, s.ld, -1, 1, s.lo, s.ho⟩) := by
  refine ((h.set 2 _).set 3 _).congr fun j hj => ?_
  have hh : j = 0 ∨ j = 1 ∨ j = 2 ∨ j = 3 ∨ j = 4 ∨ j = 5 := by omega
  rcases hh with rfl | rfl | rfl | rfl | rfl | rfl <;> rfl
end
/-- What a method of a part leaves: the part, and all else. -/
def StPost (w0 w : World) (b : Nat) (s : Stc) (e : Ending) (w' : World) : Prop := (∃ v, e = .returned v) ∧ Row w' b 6 (Stf s) ∧ Since w0 w' ∧ KeepBut b w w'
end Go.Proofs.YtcfghkphkmoikaaGreat

/-
  What a call leaves that draws and lays blocks alone: an equation; a store into a map in a region that draws its order.
-/
namespace Go.Proofs.YtcfghkphkmoikaaGreat
set_option maxRecDepth 100000
open Go.RowKit Go.Maps
set_option linter.unusedVariables false

/-- Draws, and blocks laid behind: nothing else. -/
def Gr (w w' : World) : Prop := ∃ (q : Nat) (os : Array Obj), w' = Go.Sort.grow (w.drewN q) os
theorem Gr.refl (w : World) : Gr w w := ⟨0, #[], by rw [Go.Sort.grow_empty]; rfl⟩
theorem Gr.alloc {w w' : World} (h : Gr w w') (o : Obj) : Gr w (w'.alloc o) := by
  obtain ⟨q, os, rfl⟩ := h
  exact ⟨q, os ++ #[o], by rw [Go.Sort.alloc_eq_grow, Go.Sort.grow_grow]⟩
theorem Gr.drewN {w w' : World} (h : Gr w w') (n : Nat) : Gr w (w'.drewN n) := by
  obtain ⟨q, os, rfl⟩ := h
  exact ⟨q + n, os, by rw [← World.drewN_drewN]; rfl⟩
theorem Gr.drew {w w' : World} (h : Gr w w') : Gr w w'.drew := h.drewN 1
theorem Gr.trans {a b c : World} (h : Gr a b) (k : Gr b c) : Gr a c := by
  obtain ⟨q, os, rfl⟩ := k
  obtain ⟨n, us, e⟩ := h.drewN q
  rw [e, Go.Sort.grow_grow]
  exact ⟨n, us ++ os, rfl⟩
theorem Gr.since {w w' : World} (h : Gr w w') : Since w w' := by
  obtain ⟨q, os, rfl⟩ := h
  refine since_of ⟨rfl, rfl, rfl, ?_, fun b hb => ?_⟩
  · rw [Go.Sort.size_grow]; exact Nat.le_add_right _ _
  · exact Go.Sort.heap_grow_old (w.drewN q) os hb
theorem gr_start (w0 : World) : (∀ b o, b < w0.heap.size → w0.cell? ⟨b, o, none⟩ = w0.cell? ⟨b, o, none⟩) ∧ (∀ b o, b < w0.heap.size → w0.frozen? ⟨b, o, none⟩ = w0.frozen? ⟨b, o, none⟩) ∧ (∀ k, k < w0.heap.size → k < w0.heap.size) ∧ Below w0.heap.size w0 w0 ∧ Gr w0 w0 :=
  ⟨fun _ _ _ => rfl, fun _ _ _ => rfl, fun _ h => h, Below.refl _ _, Gr.refl _⟩
theorem gr_step {w0 w1 w2 : World} (h : (∀ b o, b < w0.heap.size → w1.cell? ⟨b, o, none⟩ = w0.cell? ⟨b, o, none⟩) ∧ (∀ b o, b < w0.heap.size → w1.frozen? ⟨b, o, none⟩ = w0.frozen? ⟨b, o, none⟩) ∧ (∀ k, k < w0.heap.size → k < w1.heap.size) ∧ Below w0.heap.size w0 w1 ∧ Gr w0 w1) (k : Gr w1 w2) :
    (∀ b o, b < w0.heap.size → w2.cell? ⟨b, o, none⟩ = w0.cell? ⟨b, o, none⟩) ∧ (∀ b o, b < w0.heap.size → w2.frozen? ⟨b, o, none⟩ = w0.frozen? ⟨b, o, none⟩) ∧ (∀ k, k < w0.heap.size → k < w2.heap.size) ∧ Below w0.heap.size w0 w2 ∧ Gr w0 w2 := by
  have g := h.2.2.2.2.trans k
  have s := g.since
  exact ⟨s.1, s.2.1, s.2.2.1, s.2.2.2, g⟩
theorem oper_mapUpdate_own {H : Type} {P : Program} (w : World) {o : Oper} {a : Act} {K : Act → World → Prop} {Q : Exit → Act → World → Prop} (m x v : Operand) (t : TypeId) (hop : o.op = Op.mapUpdate t m x v)
    (k e : TypeId) (KK : Keyed P k) (ht : P.underlying t = some (.map k e)) (R : Value → Option (DataW H × List MemPlace)) (b n : Nat) (D : DataW H)
    (hm : a.eval m = .map (some b)) (hown : w.ownsMap P k R b n D) (hn : n < maxLen) (key val : Value) (kl : Lit) (hx : a.eval x = key) (hv : a.eval v = val) (hkey : keyOf P k key = some kl)
    (d : DataW H) (ps : List MemPlace) (hval : R val = some (d, ps))
    (hK : ∀ w', w'.ownsMap P k R b (n + 1) (D.put kl d) → w.grownBy w' (some b) → K (a.put o.dst undef) w') :
    Oper.wp P o a w K Q := by
  obtain ⟨w', hrun, r1, r2⟩ := hown.update KK ht hn hkey hval
  unfold Oper.wp
  simp [execOp, hop, hm, hx, hv, hrun, Result.andThen]
  exact hK w' r1 r2
end Go.Proofs.YtcfghkphkmoikaaGreat

/-
  Layer 15: lines in memory; 'between', 'apart', 'vector', 'product', 'On', walked.
-/
namespace Go.Proofs.YtcfghkphkmoikaaGreat
set_option maxRecDepth 100000
open Go.RowKit
set_option linter.unusedVariables false

/-- A line's numbers. -/
structure Ln where
  (ax ay bx bz : Int)
def Ln.v (l : Ln) : Value := .agg #[.int .i64 l.ax, .int .i64 l.ay, .int .i64 l.bx, .int .i64 l.bz]
def Ln.wf (l : Ln) : Prop := InP l.ax l.ay ∧ InP l.bx l.bz
def LnAt (w : World) (b : Nat) (l : Ln) : Prop := w.cell? ⟨b, 0, none⟩ = some (.int .i64 l.ax) ∧ w.cell? ⟨b, 1, none⟩ = some (.int .i64 l.ay) ∧ w.cell? ⟨b, 2, none⟩ = some (.int .i64 l.bx) ∧ w.cell? ⟨b, 3, none⟩ = some (.int .i64 l.bz) ∧ b < w.heap.size
section
variable {w w' : World} {b : Nat} {l : Ln}
theorem LnAt.since (h : LnAt w b l) (k : Since w w') : LnAt w' b l := by
  obtain ⟨h1, h2, h3, h4, h5⟩ := h
  exact ⟨(k.1 _ _ h5).trans h1, (k.1 _ _ h5).trans h2, (k.1 _ _ h5).trans h3, (k.1 _ _ h5).trans h4, k.2.2.1 _ h5⟩
theorem LnAt.alloc (h : LnAt w b l) (o : Obj) : LnAt (w.alloc o) b l := h.since ((Since.refl w).alloc o)
theorem LnAt.drew (h : LnAt w b l) : LnAt w.drew b l := h
theorem ln_new (w : World) (b : Nat) (hb : b = w.heap.size) (l : Ln) (t : TypeId) : LnAt (w.alloc (.cells #[.int .i64 l.ax, .int .i64 l.ay, .int .i64 l.bx, .int .i64 l.bz] t)) b l := by
  subst hb
  refine ⟨?_, ?_, ?_, ?_, by simp⟩ <;> (rw [World.cell?_alloc_new]; rfl)
end
def lo2 (a b : Int) : Int := if b < a then b else a
def hi2 (a b : Int) : Int := if a < b then b else a
def btw (a n b : Int) : Bool := decide (lo2 a b ≤ n) && decide (n ≤ hi2 a b)
def aprt (a b c d : Int) : Bool := decide (hi2 a b < lo2 c d) || decide (hi2 c d < lo2 a b)
theorem min2_run : ∀ (A B : Int) (w : World), (Builtin.min_ #[3, 3] 3 #[.int .i64 A, .int .i64 B]).run Tryz.prog w = .ok (.int .i64 (lo2 A B)) w := fun _ _ _ => rfl
theorem max2_run : ∀ (A B : Int) (w : World), (Builtin.max_ #[3, 3] 3 #[.int .i64 A, .int .i64 B]).run Tryz.prog w = .ok (.int .i64 (hi2 A B)) w := fun _ _ _ => rfl
theorem cr_between (a n b : Int) (w : World) : Calls Tryz.prog 157 #[.int .i64 a, .int .i64 n, .int .i64 b] w fun e w' => e = .returned (.bool (btw a n b)) ∧ Since w w' := by
  have hmin := min2_run
  have hmax := max2_run
  unfold btw
  cases h1 : decide (lo2 a b ≤ n) <;> cases h2 : decide (n ≤ hi2 a b)
  all_goals
    go_enter Tryz.func157, Tryz.ntmps157
    go_wp2
    all_goals go_ret
    all_goals exact ⟨by first | rfl | simp, by (repeat (first | with_reducible (exact Since.refl _) | with_reducible assumption | with_reducible (refine Since.drew ?_) | with_reducible (refine Since.drewN ?_ _) | with_reducible (refine Since.alloc ?_ _) | (with_reducible (refine Since.setCell ?_ ?_ _); rotate_left; focus (first | (simp; done) | (simp; omega) | omega)) | (with_reducible (refine Since.trans ?_ (by with_reducible assumption)))))⟩
theorem cr_apart (a b c d : Int) (w : World) : Calls Tryz.prog 95 #[.int .i64 a, .int .i64 b, .int .i64 c, .int .i64 d] w fun e w' => e = .returned (.bool (aprt a b c d)) ∧ Since w w' := by
  have hmin := min2_run
  have hmax := max2_run
  unfold aprt
  cases h1 : decide (hi2 a b < lo2 c d) <;> cases h2 : decide (hi2 c d < lo2 a b)
  all_goals
    go_enter Tryz.func95, Tryz.ntmps95
    go_wp2
    all_goals go_ret
    all_goals exact ⟨by first | rfl | simp, by (repeat (first | with_reducible (exact Since.refl _) | with_reducible assumption | with_reducible (refine Since.drew ?_) | with_reducible (refine Since.drewN ?_ _) | with_reducible (refine Since.alloc ?_ _) | (with_reducible (refine Since.setCell ?_ ?_ _); rotate_left; focus (first | (simp; done) | (simp; omega) | omega)) | (with_reducible (refine Since.trans ?_ (by with_reducible assumption)))))⟩
theorem cr_vector (x y u v : Int) (h1 : IntKind.i64.wrap (u - x) = u - x) (h2 : IntKind.i64.wrap (v - y) = v - y) (w : World) :
    Calls Tryz.prog 97 #[Pt x y, Pt u v] w fun e w' => e = .returned (Pt (u - x) (v - y)) ∧ Since w w' := by
  unfold Pt
  go_enter Tryz.func97, Tryz.ntmps97
  go_wp2
  refine bodyPost_ret (by simp only [results, Tryz.results97]; go_simp) rfl ⟨rfl, ?_⟩
  (repeat (first | with_reducible (exact Since.refl _) | with_reducible assumption | with_reducible (refine Since.drew ?_) | with_reducible (refine Since.drewN ?_ _) | with_reducible (refine Since.alloc ?_ _) | (with_reducible (refine Since.setCell ?_ ?_ _); rotate_left; focus (first | (simp; done) | (simp; omega) | omega)) | (with_reducible (refine Since.trans ?_ (by with_reducible assumption)))))
theorem cr_product (x y u v : Int) (h1 : IntKind.i64.wrap (x * v) = x * v) (h2 : IntKind.i64.wrap (y * u) = y * u) (h3 : IntKind.i64.wrap (x * v - y * u) = x * v - y * u) (w : World) :
    Calls Tryz.prog 96 #[Pt x y, Pt u v] w fun e w' => e = .returned (.int .i64 (crossI x y u v)) ∧ Since w w' := by
  unfold Pt crossI
  go_enter Tryz.func96, Tryz.ntmps96
  go_wp2
  go_ret
  exact ⟨rfl, by (repeat (first | with_reducible (exact Since.refl _) | with_reducible assumption | with_reducible (refine Since.drew ?_) | with_reducible (refine Since.drewN ?_ _) | with_reducible (refine Since.alloc ?_ _) | (with_reducible (refine Since.setCell ?_ ?_ _); rotate_left; focus (first | (simp; done) | (simp; omega) | omega)) | (with_reducible (refine Since.trans ?_ (by with_reducible assumption)))))⟩
end Go.Proofs.YtcfghkphkmoikaaGreat

/-
  Layer 16: the functions that the two sorts and the pairs are handed, walked to the world that they leave.
-/
namespace Go.Proofs.YtcfghkphkmoikaaGreat
set_option maxRecDepth 100000
open Go.RowKit
set_option linter.unusedVariables false

set_option maxHeartbeats 1000000 in
/-- A line's least x. -/
theorem px_left (l : Ln) (w : World) : Calls Tryz.prog 91 #[l.v] w fun e w' => e = .returned (.int .i64 (lo2 l.ax l.bx)) ∧ Gr w w' := by
  have hmin := min2_run
  unfold Ln.v
  go_enter Tryz.func91, Tryz.ntmps91
  go_wp2
  go_ret
  exact ⟨rfl, (Gr.refl w).alloc _⟩
set_option maxRecDepth 100000 in
set_option maxHeartbeats 4000000 in
/-- The order of lines. -/
theorem px_bylow (s t : Ln) (b : Nat) (w : World) (hb : w.cell? ⟨b, 0, none⟩ = some (.func (.func 91) #[] #[])) (hlt : b < w.heap.size) :
    Calls Tryz.prog 94 #[s.v, t.v, .pointer (some ⟨b, 0, none⟩)] w fun e w' => e = .returned (.int .i64 (cmpI (lo2 s.ax s.bx) (lo2 t.ax t.bx))) ∧ Gr w w' := by
  have h1 := fun w => px_left s w
  have h2 := fun w => px_left t w
  have hN := fun w b hb t => ln_new w b hb s t
  have hM := fun w b hb t' => ln_new w b hb t t'
  unfold Ln.v at *
  generalize lo2 s.ax s.bx = A at *
  generalize lo2 t.ax t.bx = B at *
  have H1 := Lib.hid h1; have H2 := Lib.hid h2; have HN := Lib.hid hN; have HM := Lib.hid hM
  clear h1 h2 hN hM
  go_enter Tryz.func94, Tryz.ntmps94
  go_upto_region 1 with fail
  refine wp_named fun wq hwq => ?_
  have hS : Since w wq := by subst hwq; (repeat (first | with_reducible (exact Since.refl _) | with_reducible assumption | with_reducible (refine Since.drew ?_) | with_reducible (refine Since.drewN ?_ _) | with_reducible (refine Since.alloc ?_ _) | (with_reducible (refine Since.setCell ?_ ?_ _); rotate_left; focus (first | (simp; done) | (simp; omega) | omega)) | (with_reducible (refine Since.trans ?_ (by with_reducible assumption)))))
  have hG : Gr w wq := by subst hwq; exact ((Gr.refl w).alloc _).alloc _
  have hA : LnAt wq w.heap.size s := by subst hwq; exact (HN.out w _ rfl _).alloc _
  have hB : LnAt wq (w.heap.size + 1) t := by subst hwq; exact HM.out _ (w.heap.size + 1) (by simp) _
  have c0 := (hS.1 b 0 hlt).trans hb
  have c1 := hS.2.2.1 b hlt
  obtain ⟨a1, a2, a3, a4, a5⟩ := hA
  obtain ⟨b1, b2, b3, b4, b5⟩ := hB
  clear hwq hb
  have HG := Lib.hid hG
  clear hG
  have tok7 : True := trivial
  have tok8 : True := trivial
  (refine wp_named fun wr1 hwr1 => ?_; go_region_held3 (fun w' => (∀ b o, b < wr1.heap.size → w'.cell? ⟨b, o, none⟩ = wr1.cell? ⟨b, o, none⟩) ∧ (∀ b o, b < wr1.heap.size → w'.frozen? ⟨b, o, none⟩ = wr1.frozen? ⟨b, o, none⟩) ∧ (∀ k, k < wr1.heap.size → k < w'.heap.size) ∧ Below wr1.heap.size wr1 w' ∧ Gr wr1 w') ((subst hwr1; first | with_reducible assumption | (refine gr_step (by with_reducible assumption) ?_; first | with_reducible assumption | ((repeat (first | with_reducible (exact Gr.refl _) | with_reducible assumption | with_reducible (refine Gr.drew ?_) | with_reducible (refine Gr.drewN ?_ _) | with_reducible (refine Gr.alloc ?_ _))); done)) | (refine gr_step (gr_start _) ?_; first | with_reducible assumption | ((repeat (first | with_reducible (exact Gr.refl _) | with_reducible assumption | with_reducible (refine Gr.drew ?_) | with_reducible (refine Gr.drewN ?_ _) | with_reducible (refine Gr.alloc ?_ _) | (with_reducible (refine Gr.trans ?_ (by with_reducible assumption))))); done)))) (first | (go_at_call 91; have _t := tok7; (with_reducible refine (H1.out _).mono ?_); rintro e w1 ⟨rfl, hG1⟩; have hZ1 := hG1.since.below.size; (try simp at hZ1); clear tok7) | (go_at_call 91; have _t := tok8; (with_reducible refine (H2.out _).mono ?_); rintro e w1 ⟨rfl, hG1⟩; have hZ1 := hG1.since.below.size; (try simp at hZ1); clear tok8) | (go_at_call 55; refine (cmp_int _ _ _).mono ?_; rintro e w1 ⟨rfl, rfl⟩)); all_goals (rename_i hHeld; obtain ⟨hcR1, hfR1, hzR1, hbR1, hgR1⟩ := hHeld; subst hwr1))
  all_goals go_wp2_with fail
  all_goals go_ret
  all_goals exact ⟨rfl, HG.out.trans (by (repeat (first | with_reducible (exact Gr.refl _) | with_reducible assumption | with_reducible (refine Gr.drew ?_) | with_reducible (refine Gr.drewN ?_ _) | with_reducible (refine Gr.alloc ?_ _) | (with_reducible (refine Gr.trans ?_ (by with_reducible assumption))))))⟩
end Go.Proofs.YtcfghkphkmoikaaGreat
