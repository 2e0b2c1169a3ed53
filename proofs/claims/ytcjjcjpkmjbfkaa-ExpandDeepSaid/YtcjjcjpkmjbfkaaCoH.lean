/-
  Layer 8: the reference's Read, walked.
-/
import Derived.Test.YtcjjcjpkmjbfkaaCoG
import Derived.Deep.CutBlock
import Derived.Deep.DeepCutAuto
import Derived.Deep.RegionWith
namespace Go.Proofs.Ytcjjcjpkmjbfkaa
open Go.RowKit Go.ChangeShapes Go.WideShapes Go.Deep
set_option linter.unusedVariables false

def PtF (P : Pt8) (j : Nat) : Value := (ptV P).getD j undef
theorem ptf_new (w : World) (b : Nat) (hb : b = w.heap.size) (ty : TypeId) (g0 x0 y0 a0 a1 a2 a3 : Int) : Row (w.alloc (.cells #[.int .i64 g0, .int .i64 x0, .int .i64 y0, .int .i64 a0, .int .i64 a1, .int .i64 a2, .int .i64 a3] ty)) b 7 (PtF ⟨g0, x0, y0, a0, a1, a2, a3⟩) := by
  subst hb
  refine Row.of_cells fun j hj => ?_
  have h : j = 0 ∨ j = 1 ∨ j = 2 ∨ j = 3 ∨ j = 4 ∨ j = 5 ∨ j = 6 := by omega
  rcases h with rfl | rfl | rfl | rfl | rfl | rfl | rfl <;> rfl

theorem ptf_x {w : World} {b : Nat} {P : Pt8} (h : Row w b 7 (PtF P)) (v : Int) : Row (w.setCell ⟨b, 1, none⟩ (.int .i64 v)) b 7 (PtF { P with x := v }) := by
  refine (h.set 1 _).congr fun j hj => ?_
  have hh : j = 0 ∨ j = 1 ∨ j = 2 ∨ j = 3 ∨ j = 4 ∨ j = 5 ∨ j = 6 := by omega
  rcases hh with rfl | rfl | rfl | rfl | rfl | rfl | rfl <;> rfl

theorem ptf_y {w : World} {b : Nat} {P : Pt8} (h : Row w b 7 (PtF P)) (v : Int) : Row (w.setCell ⟨b, 2, none⟩ (.int .i64 v)) b 7 (PtF { P with y := v }) := by
  refine (h.set 2 _).congr fun j hj => ?_
  have hh : j = 0 ∨ j = 1 ∨ j = 2 ∨ j = 3 ∨ j = 4 ∨ j = 5 ∨ j = 6 := by omega
  rcases hh with rfl | rfl | rfl | rfl | rfl | rfl | rfl <;> rfl

theorem ptf_m0 {w : World} {b : Nat} {P : Pt8} (h : Row w b 7 (PtF P)) (v : Int) : Row (w.setCell ⟨b, 3, none⟩ (.int .i64 v)) b 7 (PtF { P with m0 := v }) := by
  refine (h.set 3 _).congr fun j hj => ?_
  have hh : j = 0 ∨ j = 1 ∨ j = 2 ∨ j = 3 ∨ j = 4 ∨ j = 5 ∨ j = 6 := by omega
  rcases hh with rfl | rfl | rfl | rfl | rfl | rfl | rfl <;> rfl

theorem ptf_m1 {w : World} {b : Nat} {P : Pt8} (h : Row w b 7 (PtF P)) (v : Int) : Row (w.setCell ⟨b, 4, none⟩ (.int .i64 v)) b 7 (PtF { P with m1 := v }) := by
  refine (h.set 4 _).congr fun j hj => ?_
  have hh : j = 0 ∨ j = 1 ∨ j = 2 ∨ j = 3 ∨ j = 4 ∨ j = 5 ∨ j = 6 := by omega
  rcases hh with rfl | rfl | rfl | rfl | rfl | rfl | rfl <;> rfl

theorem ptf_m2 {w : World} {b : Nat} {P : Pt8} (h : Row w b 7 (PtF P)) (v : Int) : Row (w.setCell ⟨b, 5, none⟩ (.int .i64 v)) b 7 (PtF { P with m2 := v }) := by
  refine (h.set 5 _).congr fun j hj => ?_
  have hh : j = 0 ∨ j = 1 ∨ j = 2 ∨ j = 3 ∨ j = 4 ∨ j = 5 ∨ j = 6 := by omega
  rcases hh with rfl | rfl | rfl | rfl | rfl | rfl | rfl <;> rfl

theorem ptf_m3 {w : World} {b : Nat} {P : Pt8} (h : Row w b 7 (PtF P)) (v : Int) : Row (w.setCell ⟨b, 6, none⟩ (.int .i64 v)) b 7 (PtF { P with m3 := v }) := by
  refine (h.set 6 _).congr fun j hj => ?_
  have hh : j = 0 ∨ j = 1 ∨ j = 2 ∨ j = 3 ∨ j = 4 ∨ j = 5 ∨ j = 6 := by omega
  rcases hh with rfl | rfl | rfl | rfl | rfl | rfl | rfl <;> rfl

theorem ptf_cells {w : World} {b : Nat} {P : Pt8} (h : Row w b 7 (PtF P)) : w.cell? ⟨b, 0, none⟩ = some (.int .i64 P.g) ∧ w.cell? ⟨b, 1, none⟩ = some (.int .i64 P.x) ∧ w.cell? ⟨b, 2, none⟩ = some (.int .i64 P.y) ∧ w.cell? ⟨b, 3, none⟩ = some (.int .i64 P.m0) ∧ w.cell? ⟨b, 4, none⟩ = some (.int .i64 P.m1) ∧ w.cell? ⟨b, 5, none⟩ = some (.int .i64 P.m2) ∧ w.cell? ⟨b, 6, none⟩ = some (.int .i64 P.m3) :=
  ⟨h.1 0 (by omega), h.1 1 (by omega), h.1 2 (by omega), h.1 3 (by omega), h.1 4 (by omega), h.1 5 (by omega), h.1 6 (by omega)⟩
theorem StR.none {n x : Nat} {E0 p E : Int} (h : StR n x E0 p E) (hE : E = 0) : E0 = 3 ∧ p = (x : Int) ∧ x ≤ n := by
  rcases h with ⟨a, b, _⟩ | ⟨_, b, c, d⟩
  · exact absurd (a.symm.trans hE) b
  · exact ⟨b, c, d⟩
theorem StR.some {n x : Nat} {E0 p E : Int} (h : StR n x E0 p E) (hE : E ≠ 0) : E = E0 ∧ (E0 = 3 → n < x) := by
  rcases h with ⟨a, _, b⟩ | ⟨a, _⟩
  · exact ⟨a, b⟩
  · exact absurd a hE
theorem own_ne {w : World} {base : Nat} {v : Value} {l : List Pt8} {q : Nat} (h : OwnP8 w base v l) (hq : q < base) : v.ownBlock ≠ some q := fun e => by
  have := h.lt e; omega
theorem own_far {w : World} {base : Nat} {v : Value} {l : List Pt8} (h : OwnP8 w base v l) (b o : Nat) (u : Value) (hb : v.ownBlock ≠ some b) : OwnP8 (w.setCell ⟨b, o, none⟩ u) base v l :=
  OwnG.near h ((Nigh.refl b w).set o u) hb
/-- What the flags' read and the test of the bit 'placed' leave to be known. -/
def Ps8 (f : Nat → Int) (n x : Nat) (F E0 : Int) : Prop := (E0 = 9 ∧ pe8 f n x = 9) ∨ (E0 = 3 ∧ (x + 4 ≤ n → Has8 (fl8 f x) 2 ∧ F = fl8 f x))
theorem ps8_end {f : Nat → Int} {n x : Nat} {F E0 p E : Int} (h : Ps8 f n x F E0) (hst : StR n (x + sz8 F) E0 p E) : (E = 0 → pe8 f n x = 0 ∧ F = fl8 f x ∧ p = ((x + sz8 (fl8 f x) : Nat) : Int)) ∧ (E ≠ 0 → pe8 f n x = E) := by
  have hz : 4 ≤ sz8 F := by unfold sz8; omega
  constructor
  · intro e
    obtain ⟨h3, hp, hx⟩ := hst.none e
    rcases h with ⟨a, _⟩ | ⟨_, b⟩
    · omega
    · obtain ⟨b1, b2⟩ := b (by omega)
      subst b2
      refine ⟨?_, rfl, hp⟩
      unfold pe8
      rw [if_neg (by omega), if_neg (by simp [b1]), if_neg (by omega)]
  · intro e
    obtain ⟨he, hn⟩ := hst.some e
    rcases h with ⟨a, b⟩ | ⟨a, b⟩
    · rw [b]; omega
    · have hn := hn a
      unfold pe8
      by_cases h4 : n < x + 4
      · rw [if_pos h4]; omega
      · obtain ⟨b1, b2⟩ := b (by omega)
        subst b2
        rw [if_neg h4, if_neg (by simp [b1]), if_pos hn]; omega
def tB (e F : Int) : Bool := decide (e = 0) && !decide (Has8 F 2)
/-- Behind the test of 'placed'. -/
def Ca8 (q : Nat) (A : Option Addr) (n c : Nat) (f : Nat → Int) (x : Nat) (F : Int) (wa wx : World) : Prop := ∃ E0 p E, Row wx q 3 (RdrF A n c p E) ∧ StR n (x + 4) E0 p E ∧ Ps8 f n x F E0 ∧ Nigh q wa wx
theorem rf_has8' (x b : Int) (r : Bool) (w : World) (h0 : 0 ≤ x ∧ x < 65536) (hb : 1 ≤ b ∧ b ≤ 256) (hr : decide (Has8 x b) = r) : Calls Try.prog 51 #[.int .i64 x, .int .i64 b] w fun e w' => e = .returned (.bool r) ∧ w' = w := by
  subst hr; exact rf_has8 x b w h0.1 h0.2 hb
def mtP (f : Nat → Int) (z k : Nat) (G X Y : Int) : Pt8 := ⟨G, X, Y, if k = 0 then 16384 else s2 f z, if k = 4 then s2 f (z + 2) else 0, if k = 4 then s2 f (z + 4) else 0, if k = 0 then 16384 else if k = 1 then s2 f z else if k = 2 then s2 f (z + 2) else s2 f (z + 6)⟩
/-- Behind the four numbers. -/
def Cm8 (w : World) (b : Nat) (A : Option Addr) (n c : Nat) (f : Nat → Int) (z k : Nat) (E0 G X Y : Int) (v : Value) (l : List Pt8) (wx : World) : Prop :=
  ∃ P E p, Row wx w.heap.size 3 (RdrF A n c p E) ∧ Row wx b 7 (PtF P) ∧ StR n (z + 2 * k) E0 p E ∧ (E = 0 → P = mtP f z k G X Y) ∧ OwnP8 wx (w.heap.size + 1) v l ∧ Since w wx
theorem cm8_mk {w : World} {b : Nat} {A : Option Addr} {n c : Nat} {f : Nat → Int} {z k : Nat} {E0 G X Y : Int} {v : Value} {l : List Pt8} {wx : World} {P : Pt8} {E p : Int} (h1 : Row wx w.heap.size 3 (RdrF A n c p E)) (h2 : Row wx b 7 (PtF P)) (h3 : StR n (z + 2 * k) E0 p E) (h4 : E = 0 → P = mtP f z k G X Y) (h5 : OwnP8 wx (w.heap.size + 1) v l) (h6 : Since w wx) : Cm8 w b A n c f z k E0 G X Y v l wx := ⟨P, E, p, h1, h2, h3, h4, h5, h6⟩
section
variable {w w8 : World} {b : Nat} {A : Option Addr} {n c : Nat} {f : Nat → Int} {z : Nat} {E0 G X Y M M2 p p2 E E2 : Int} {v : Value} {l : List Pt8}
theorem cm8_k0 (hR : Row w8 w.heap.size 3 (RdrF A n c p E)) (hB : Row w8 b 7 (PtF ⟨G, X, Y, 16384, 0, 0, 16384⟩)) (hst : StR n z E0 p E) (hO : OwnP8 w8 (w.heap.size + 1) v l) (hS : Since w w8) : Cm8 w b A n c f z 0 E0 G X Y v l w8 :=
  cm8_mk hR hB hst (fun _ => rfl) hO hS
theorem cm8_k1 (hR : Row w8 w.heap.size 3 (RdrF A n c p E)) (hB : Row w8 b 7 (PtF ⟨G, X, Y, 16384, 0, 0, 16384⟩)) (hst : StR n (z + 2) E0 p E) (hM : E = 0 → M = sgn 2 (numAt f z 2)) (hO : OwnP8 w8 (w.heap.size + 1) v l) (hS : Since w w8) (hbq : w.heap.size < b) (hvb : v.ownBlock ≠ some b) :
    Cm8 w b A n c f z 1 E0 G X Y v l ((w8.setCell ⟨b, 3, none⟩ (.int .i64 M)).setCell ⟨b, 6, none⟩ (.int .i64 M)) :=
  cm8_mk ((hR.far (by omega) _ _).far (by omega) _ _) (ptf_m3 (ptf_m0 hB M) M) hst (fun e => by have := hM e; subst this; rfl) (own_far (own_far hO b 3 _ hvb) b 6 _ hvb)
    ((hS.setCell (p := ⟨b, 3, none⟩) (show w.heap.size ≤ b by omega) _).setCell (p := ⟨b, 6, none⟩) (show w.heap.size ≤ b by omega) _)
theorem cm8_k2 (hR : Row w8 w.heap.size 3 (RdrF A n c p E)) (hB : Row w8 b 7 (PtF ⟨G, X, Y, M, 0, 0, 16384⟩)) (hst : StR n (z + 2 + 2) E0 p E) (hM : E = 0 → M = sgn 2 (numAt f z 2)) (hM2 : E = 0 → M2 = sgn 2 (numAt f (z + 2) 2)) (hO : OwnP8 w8 (w.heap.size + 1) v l) (hS : Since w w8) (hbq : w.heap.size < b) (hvb : v.ownBlock ≠ some b) :
    Cm8 w b A n c f z 2 E0 G X Y v l (w8.setCell ⟨b, 6, none⟩ (.int .i64 M2)) :=
  cm8_mk (hR.far (by omega) _ _) (ptf_m3 hB M2) hst (fun e => by have h1 := hM e; have h2 := hM2 e; subst h1; subst h2; rfl) (own_far hO b 6 _ hvb) (hS.setCell (p := ⟨b, 6, none⟩) (show w.heap.size ≤ b by omega) _)
/-- In the loop over four numbers. -/
def p48 (f : Nat → Int) (z i : Nat) (G X Y : Int) : Pt8 := ⟨G, X, Y, if 0 < i then s2 f z else 16384, if 1 < i then s2 f (z + 2) else 0, if 2 < i then s2 f (z + 4) else 0, if 3 < i then s2 f (z + 6) else 16384⟩
def L48 (w : World) (b : Nat) (A : Option Addr) (n c : Nat) (f : Nat → Int) (z : Nat) (E0 G X Y : Int) (v : Value) (l : List Pt8) (y : Value) (wx : World) : Prop :=
  ∃ (i : Nat) (P : Pt8) (E p : Int), i ≤ 4 ∧ y = .int .i64 (i : Int) ∧ Row wx w.heap.size 3 (RdrF A n c p E) ∧ Row wx b 7 (PtF P) ∧ StR n (z + 2 * i) E0 p E ∧ (E = 0 → P = p48 f z i G X Y) ∧ OwnP8 wx (w.heap.size + 1) v l ∧ Since w wx

theorem l48_0 {P : Pt8} {x : Int} (hR : Row w8 w.heap.size 3 (RdrF A n c p E)) (hB : Row w8 b 7 (PtF P)) (hst : StR n (z + 2 * 0 + 2) E0 p E) (hM : E = 0 → M = sgn 2 (numAt f (z + 2 * 0) 2)) (hP : E = 0 → P = p48 f z 0 G X Y) (hO : OwnP8 w8 (w.heap.size + 1) v l) (hS : Since w w8) (hbq : w.heap.size < b) (hvb : v.ownBlock ≠ some b) (hx : x = 1) :
    L48 w b A n c f z E0 G X Y v l (.int .i64 x) (w8.setCell ⟨b, 3, none⟩ (.int .i64 M)) :=
  ⟨1, { P with m0 := M }, E, p, by omega, by rw [hx]; rfl, hR.far (by omega) _ _, ptf_m0 hB M, hst, fun e => by have h1 := hM e; have h2 := hP e; subst h1; subst h2; rfl, own_far hO b 3 _ hvb, hS.setCell (p := ⟨b, 3, none⟩) (show w.heap.size ≤ b by omega) _⟩

theorem l48_1 {P : Pt8} {x : Int} (hR : Row w8 w.heap.size 3 (RdrF A n c p E)) (hB : Row w8 b 7 (PtF P)) (hst : StR n (z + 2 * 1 + 2) E0 p E) (hM : E = 0 → M = sgn 2 (numAt f (z + 2 * 1) 2)) (hP : E = 0 → P = p48 f z 1 G X Y) (hO : OwnP8 w8 (w.heap.size + 1) v l) (hS : Since w w8) (hbq : w.heap.size < b) (hvb : v.ownBlock ≠ some b) (hx : x = 2) :
    L48 w b A n c f z E0 G X Y v l (.int .i64 x) (w8.setCell ⟨b, 4, none⟩ (.int .i64 M)) :=
  ⟨2, { P with m1 := M }, E, p, by omega, by rw [hx]; rfl, hR.far (by omega) _ _, ptf_m1 hB M, hst, fun e => by have h1 := hM e; have h2 := hP e; subst h1; subst h2; rfl, own_far hO b 4 _ hvb, hS.setCell (p := ⟨b, 4, none⟩) (show w.heap.size ≤ b by omega) _⟩

theorem l48_2 {P : Pt8} {x : Int} (hR : Row w8 w.heap.size 3 (RdrF A n c p E)) (hB : Row w8 b 7 (PtF P)) (hst : StR n (z + 2 * 2 + 2) E0 p E) (hM : E = 0 → M = sgn 2 (numAt f (z + 2 * 2) 2)) (hP : E = 0 → P = p48 f z 2 G X Y) (hO : OwnP8 w8 (w.heap.size + 1) v l) (hS : Since w w8) (hbq : w.heap.size < b) (hvb : v.ownBlock ≠ some b) (hx : x = 3) :
    L48 w b A n c f z E0 G X Y v l (.int .i64 x) (w8.setCell ⟨b, 5, none⟩ (.int .i64 M)) :=
  ⟨3, { P with m2 := M }, E, p, by omega, by rw [hx]; rfl, hR.far (by omega) _ _, ptf_m2 hB M, hst, fun e => by have h1 := hM e; have h2 := hP e; subst h1; subst h2; rfl, own_far hO b 5 _ hvb, hS.setCell (p := ⟨b, 5, none⟩) (show w.heap.size ≤ b by omega) _⟩

theorem l48_3 {P : Pt8} {x : Int} (hR : Row w8 w.heap.size 3 (RdrF A n c p E)) (hB : Row w8 b 7 (PtF P)) (hst : StR n (z + 2 * 3 + 2) E0 p E) (hM : E = 0 → M = sgn 2 (numAt f (z + 2 * 3) 2)) (hP : E = 0 → P = p48 f z 3 G X Y) (hO : OwnP8 w8 (w.heap.size + 1) v l) (hS : Since w w8) (hbq : w.heap.size < b) (hvb : v.ownBlock ≠ some b) (hx : x = 4) :
    L48 w b A n c f z E0 G X Y v l (.int .i64 x) (w8.setCell ⟨b, 6, none⟩ (.int .i64 M)) :=
  ⟨4, { P with m3 := M }, E, p, by omega, by rw [hx]; rfl, hR.far (by omega) _ _, ptf_m3 hB M, hst, fun e => by have h1 := hM e; have h2 := hP e; subst h1; subst h2; rfl, own_far hO b 6 _ hvb, hS.setCell (p := ⟨b, 6, none⟩) (show w.heap.size ≤ b by omega) _⟩

theorem cm8_k4 {P : Pt8} (hR : Row w8 w.heap.size 3 (RdrF A n c p E)) (hB : Row w8 b 7 (PtF P)) (hst : StR n (z + 2 * 4) E0 p E) (hP : E = 0 → P = p48 f z 4 G X Y) (hO : OwnP8 w8 (w.heap.size + 1) v l) (hS : Since w w8) : Cm8 w b A n c f z 4 E0 G X Y v l w8 :=
  cm8_mk hR hB hst (fun e => by have h2 := hP e; subst h2; rfl) hO hS
theorem StR.zero {n x m : Nat} {E0 p E p2 E2 : Int} (h : StR n x E0 p E) (h2 : StR n (x + m) E0 p2 E2) (e : E2 = 0) : E = 0 := by
  obtain ⟨a, _, b⟩ := h2.none e
  by_cases e1 : E = 0
  · exact e1
  · have := (h.some e1).2 a; omega
end
theorem pt8_of {f : Nat → Int} {x m z : Nat} {F : Int} (hF : F = fl8 f x) (hm : m = wd8 F) (hz : z = x + 4 + m + m) : mtP f z (nm8 F) (numAt f (x + 2) 2) (sgn m (numAt f (x + 4) m)) (sgn m (numAt f (x + 4 + m) m)) = pt8 f x := by
  subst hF; subst hm; subst hz
  unfold mtP pt8
  dsimp only
  rw [show x + 4 + 2 * wd8 (fl8 f x) = x + 4 + wd8 (fl8 f x) + wd8 (fl8 f x) by omega]
/-- The loop's relation. -/
def Lp8 (A : Option Addr) (n c : Nat) (f : Nat → Int) (w : World) (v : Value) (wr : World) : Prop :=
  ∃ (l : List Pt8) (x : Nat), OwnP8 wr (w.heap.size + 1) v l ∧ l.length ≤ 63 ∧ x ≤ n ∧ Row wr w.heap.size 3 (RdrF A n c x 0) ∧ Since w wr ∧ Hid (rdGo f n 63 10 = preR l (rdGo f n (63 - l.length) x))
set_option maxRecDepth 100000 in
set_option maxHeartbeats 8000000 in
theorem rf_read8 (A : Option Addr) (n c : Nat) (f : Nat → Int) (w : World) (h : Rd w w.heap.size A n (U8 f)) (hf : ∀ j, j < n → 0 ≤ f j ∧ f j ≤ 255) (hn : n ≤ 140737488355328) (hnc : n ≤ c) :
    Calls Try.prog 38 #[.slice A n c] w (RdPost8 f n w) := by
  by_cases h10 : n < 10
  · have E := Lib.hid (show rdAns8 f n = ⟨3, [], 0, 0⟩ by unfold rdAns8; rw [if_pos h10])
    have h10' : (n : Int) < 10 := by omega
    clear h
    go_enter Try.func38, Try.ntmps38
    go_wp2
    go_ret3
    exact rdpost8 E.out (by first | rfl | simp) RdG.nil (Nat.le_refl _) Nw.zero (Since.refl _)
  have H0 := Lib.hid h
  have HF := Lib.hid hf
  have h10' : (10 : Int) ≤ n := by omega
  have hq0 := rdr_new w _ rfl 109 A n c
  have hC := rf_s8 w.heap.size A n c f 0 2 2 3 0 0 _ hq0 (rd_part7 h _) hf rfl (by omega) (by omega) hn (.inr ⟨rfl, rfl, rfl, by omega⟩)
  clear h hf
  have e0 : sgn 2 (numAt f 0 2) = s2 f 0 := rfl
  have E1 := Lib.hid (show 0 ≤ s2 f 0 → rdAns8 f n = ⟨11, [], 0, 0⟩ from fun hk => by unfold rdAns8; rw [if_neg h10, if_pos hk])
  have E2 := Lib.hid (show ¬ 0 ≤ s2 f 0 → rdAns8 f n = fin8 f n (rdGo f n 63 10) from fun hk => by unfold rdAns8; rw [if_neg h10, if_neg hk])
  have HG0 := Lib.hid (preR_nil f n 63 10).symm
  unfold RsPost at hC
  rw [e0] at hC
  generalize s2 f 0 = k at *
  clear e0
  by_cases hk : 0 ≤ k
  · have E := Lib.hid (E1.out hk)
    clear E1 E2 HG0
    go_enter Try.func38, Try.ntmps38
    go_wp2_with (go_at_call 49; (with_reducible refine hC.mono ?_); rintro e w1 ⟨v1, p1, e1, rfl, hR1, hN1, hst1, hv1, _⟩; have he1 : e1 = 0 := (hst1.elim (fun h => absurd (h.2.2 rfl) (by omega)) (fun h => h.1)); have hv1 := hv1 he1; subst hv1; subst he1; have hS1 := hN1.2 w (by (repeat (first | with_reducible (exact Since.refl _) | with_reducible assumption | with_reducible (refine Since.drew ?_) | with_reducible (refine Since.drewN ?_ _) | with_reducible (refine Since.alloc ?_ _) | (with_reducible (refine Since.setCell ?_ ?_ _); rotate_left; focus (first | (simp; done) | (simp; omega) | omega)) | (with_reducible (refine Since.trans ?_ (by with_reducible assumption)))))) (Nat.le_refl _); clear hN1 hst1 hC hq0; obtain ⟨c0, c1, c2, f1, f2, hq⟩ := rdr_cells hR1)
    go_ret3
    exact rdpost8 E.out (by first | rfl | simp) RdG.nil (Nat.le_refl _) Nw.zero hS1
  have E := Lib.hid (E2.out hk)
  clear E1 E2
  go_enter Try.func38, Try.ntmps38
  go_wp2_with (go_at_call 49; (with_reducible refine hC.mono ?_); rintro e w1 ⟨v1, p1, e1, rfl, hR1, hN1, hst1, hv1, _⟩; have he1 : e1 = 0 := (hst1.elim (fun h => absurd (h.2.2 rfl) (by omega)) (fun h => h.1)); have hv1 := hv1 he1; subst hv1; subst he1; have hS1 := hN1.2 w (by (repeat (first | with_reducible (exact Since.refl _) | with_reducible assumption | with_reducible (refine Since.drew ?_) | with_reducible (refine Since.drewN ?_ _) | with_reducible (refine Since.alloc ?_ _) | (with_reducible (refine Since.setCell ?_ ?_ _); rotate_left; focus (first | (simp; done) | (simp; omega) | omega)) | (with_reducible (refine Since.trans ?_ (by with_reducible assumption)))))) (Nat.le_refl _); clear hN1 hst1 hC hq0; obtain ⟨c0, c1, c2, f1, f2, hq⟩ := rdr_cells hR1)
  have hR2 := rdr_at hR1 10
  have hS2 := hS1.setCell (p := ⟨w.heap.size, 1, none⟩) (Nat.le_refl _) (.int .i64 10)
  clear hR1 hS1 c0 c1 c2 f1 f2
  go_loopw [6] (fun v wr => Lp8 A n c f w v wr) (fun v _ => 64 - len8 v)
  case atStart => exact ⟨[], 10, OwnG.nil _ _ _ _ _, by simp, by omega, hR2, hS2, HG0⟩
  case round =>
    obtain ⟨l, x, hO, hl, hx, hR, hS, HG⟩ := hrel
    obtain ⟨Av, cv, rfl, hcv, hrv⟩ := hO.rd (by omega) ptV_len
    clear hrv
    have tok1 := True.intro
    have hq := hR.2.2
    have hst0 : StR n x 3 (x : Int) 0 := .inr ⟨rfl, rfl, rfl, hx⟩
    go_upto_region 10 with (first | (go_at_call 50; have _t := tok1; (with_reducible refine (rf_u8 w.heap.size A n c f x 3 _ _ _ hR (H0.out.on hS) HF.out (by omega) hn hst0).mono ?_); rintro e w2 ⟨F, p2, e2, rfl, hR2, hN2, hst2, hF2, hFb⟩; have hS2 := hN2.2 w hS (Nat.le_refl _); have hO2 := hO.near hN2 (own_ne hO (Nat.lt_succ_self _)); clear tok1; have tok2 := True.intro) | (go_at_call 50; have _t := tok2; (with_reducible refine (rf_u8 w.heap.size A n c f (x + 2) 3 _ _ _ hR2 (H0.out.on hS2) HF.out (by omega) hn hst2).mono ?_); rintro e w3 ⟨G, p3, e3, rfl, hR3, hN3, hst3, hG3, hGb⟩; have hS3 := hN3.2 w hS2 (Nat.le_refl _); have hO3 := hO2.near hN3 (own_ne hO2 (Nat.lt_succ_self _)); clear tok2))
    have HE := Lib.hid (show (e3 = 0 → e2 = 0) from fun h => by
      obtain ⟨_, _, h1⟩ := hst3.none h
      by_cases h2 : e2 = 0
      · exact h2
      · have := (hst2.some h2).2 rfl; omega)
    have HF2 := Lib.hid hF2
    have HG3 := Lib.hid hG3
    refine wp_named fun wa hwa => ?_
    obtain ⟨b, hb⟩ : ∃ b, b = w3.heap.size := ⟨_, rfl⟩
    rw [← hb]
    have hRa : Row wa w.heap.size 3 (RdrF A n c p3 e3) := by rw [hwa]; exact hR3.alloc _
    have hBa : Row wa b 7 (PtF ⟨G, 0, 0, 16384, 0, 0, 16384⟩) := by rw [hwa]; exact ptf_new w3 b hb _ _ _ _ _ _ _ _
    have hSa : Since w wa := by rw [hwa]; exact hS3.alloc _
    have hOa : OwnP8 wa (w.heap.size + 1) (.slice Av l.length cv) l := by rw [hwa]; exact hO3.alloc _
    have hbq : w.heap.size < b := by rw [hb]; exact hR3.2.2
    have hvb : (Value.slice Av l.length cv).ownBlock ≠ some b := fun e => by have := (hO3.lt e).2; omega
    have hst3 : StR n (x + 4) 3 p3 e3 := hst3
    clear hwa hb hR3 hN3 hS3 hO3 hR2 hN2 hS2 hO2 hst2 hR hO hS hst0 hF2 hG3
    obtain ⟨c0, c1, c2, f1, f2, hq⟩ := rdr_cells hRa
    go_cut [41] (fun z wx => z = .bool (tB e3 F) ∧ wx = wa)
    case first =>
      by_cases he : e3 = 0
      · have d1 : (e3 == 0) = true := by simpa using he
        by_cases h2 : Has8 F 2
        · have E9 := Lib.hid (show tB e3 F = false by unfold tB; simp [h2])
          have HH := Lib.hid (fun w2 => rf_has8' F 2 true w2 hFb (by omega) (decide_eq_true h2))
          clear he h2
          go_wp2_with (go_at_call 51; (with_reducible refine (HH.out _).mono ?_); rintro e w4 ⟨rfl, rfl⟩)
          go_meet
          rw [E9.out]
          exact ⟨rfl, rfl⟩
        · have E9 := Lib.hid (show tB e3 F = true by unfold tB; simp [h2, he])
          have HH := Lib.hid (fun w2 => rf_has8' F 2 false w2 hFb (by omega) (decide_eq_false h2))
          clear he h2
          go_wp2_with (go_at_call 51; (with_reducible refine (HH.out _).mono ?_); rintro e w4 ⟨rfl, rfl⟩)
          go_meet
          rw [E9.out]
          exact ⟨rfl, rfl⟩
      · have d1 : (e3 == 0) = false := by simpa using he
        have E9 := Lib.hid (show tB e3 F = false by unfold tB; simp [he])
        clear he
        go_wp2_with fail
        go_meet
        rw [E9.out]
        exact ⟨rfl, rfl⟩
    obtain ⟨rfl, hw9⟩ := hcut
    have hw8 := hw9.symm
    subst hw8
    clear hw9
    go_upto_if 41 with fail
    go_cut [7] (fun z wx => z = .int .i64 F ∧ Ca8 w.heap.size A n c f x F wa wx)
    case first =>
      cases ht : tB e3 F with
      | false =>
        have HH : Ca8 w.heap.size A n c f x F wa wa := by
          refine ⟨3, p3, e3, hRa, hst3, .inr ⟨rfl, fun h4 => ?_⟩, Nigh.refl _ _⟩
          have he : e3 = 0 := by
            by_cases he : e3 = 0
            · exact he
            · have := (hst3.some he).2 rfl; omega
          unfold tB at ht
          have h8 : Has8 F 2 := by simpa [he] using ht
          have hFe : F = fl8 f x := HF2.out (HE.out he)
          exact ⟨by rw [← hFe]; exact h8, hFe⟩
        have HHH := Lib.hid HH
        clear HH
        go_wp2_with fail
        go_meet
        exact ⟨rfl, HHH.out⟩
      | true =>
        have HH : Ca8 w.heap.size A n c f x F wa (wa.setCell ⟨w.heap.size, 2, none⟩ (.int .i64 9)) := by
          unfold tB at ht
          have h8 : e3 = 0 ∧ ¬ Has8 F 2 := by simpa using ht
          obtain ⟨_, _, h4⟩ := hst3.none h8.1
          have hFe : F = fl8 f x := HF2.out (HE.out h8.1)
          refine ⟨9, p3, 9, rdr_e hRa 9, .inl ⟨rfl, by omega, fun e => by omega⟩, .inl ⟨rfl, ?_⟩, (Nigh.refl _ _).set _ _⟩
          unfold pe8
          rw [if_neg (by omega), if_pos (by rw [← hFe]; exact h8.2)]
        have HHH := Lib.hid HH
        clear HH
        go_wp2_with fail
        go_meet
        exact ⟨rfl, HHH.out⟩
    obtain ⟨rfl, E0, p4, e4, hR4, hst4, hPs, hN4⟩ := hcut
    have hB4 := hBa.near hN4 (by omega)
    have hS4 := hN4.2 w hSa (Nat.le_refl _)
    have hO4 := hOa.near hN4 (own_ne hOa (Nat.lt_succ_self _))
    clear hRa hBa hSa hOa hN4 c0 c1 c2 f1 f2 hq
    go_upto_if 46 with (go_at_call 51; (with_reducible refine (rf_has8' F 1 _ _ hFb (by omega) rfl).mono ?_); rintro e wd ⟨rfl, rfl⟩)
    go_cut [9] (fun z wx => z = .int .i64 (wd8 F) ∧ wx = wd)
    case first =>
      by_cases h1 : Has8 F 1
      · have E9 := Lib.hid (show wd8 F = 2 by unfold wd8; rw [if_pos h1])
        go_wp2_with fail
        go_meet
        rw [E9.out]
        exact ⟨rfl, rfl⟩
      · have E9 := Lib.hid (show wd8 F = 1 by unfold wd8; rw [if_neg h1])
        go_wp2_with fail
        go_meet
        rw [E9.out]
        exact ⟨rfl, rfl⟩
    obtain ⟨rfl, hw9⟩ := hcut
    have hw8 := hw9.symm
    subst hw8
    clear hw9
    have hwd : wd8 F = 1 ∨ wd8 F = 2 := by rcases wd8_or F with ⟨_, h⟩ | ⟨_, h⟩ <;> omega
    obtain ⟨m, hm⟩ : ∃ m, m = wd8 F := ⟨_, rfl⟩
    have HM := Lib.hid hm
    rw [← hm] at hwd ⊢
    clear hm
    have tok3 := True.intro
    obtain ⟨g0, g1, g2, g3, g4, g5, g6⟩ := ptf_cells hB4
    have hfr4 := hB4.2.1
    have hlt4 := hB4.2.2
    go_upto_if 56 with (first | (go_at_call 49; have _t := tok3; (with_reducible refine (rf_s8 w.heap.size A n c f (x + 4) m _ E0 _ _ _ hR4 (H0.out.on hS4) HF.out rfl (by omega) (by omega) hn hst4).mono ?_); rintro e w5 ⟨X, p5, e5, rfl, hR5, hN5, hst5, hX5, _⟩; have hS5 := hN5.2 w hS4 (Nat.le_refl _); have hO5 := hO4.near hN5 (own_ne hO4 (Nat.lt_succ_self _)); have hB5 := hB4.near hN5 (by omega); have HX5 := Lib.hid hX5; clear tok3 hX5 g0 g1 g2 g3 g4 g5 g6 hfr4 hlt4; obtain ⟨g0, g1, g2, g3, g4, g5, g6⟩ := ptf_cells hB5; have hfr5 := hB5.2.1; have hlt5 := hB5.2.2; have hR5' := hR5.far (b' := b) (by omega) 1 (.int .i64 X); have hB5' := ptf_x hB5 X; have hS5' := hS5.setCell (p := ⟨b, 1, none⟩) (show w.heap.size ≤ b by omega) (.int .i64 X); have hO5' := own_far hO5 b 1 (.int .i64 X) hvb; have tok4 := True.intro) | (go_at_call 49; have _t := tok4; (with_reducible refine (rf_s8 w.heap.size A n c f (x + 4 + m) m _ E0 _ _ _ hR5' (H0.out.on hS5') HF.out rfl (by omega) (by omega) hn hst5).mono ?_); rintro e w6 ⟨Y, p6, e6, rfl, hR6, hN6, hst6, hY6, _⟩; have hS6 := hN6.2 w hS5' (Nat.le_refl _); have hO6 := hO5'.near hN6 (own_ne hO5' (Nat.lt_succ_self _)); have hB6 := hB5'.near hN6 (by omega); have HY6 := Lib.hid hY6; clear tok4 hY6 g0 g1 g2 g3 g4 g5 g6 hfr5 hlt5 hR5' hB5' hS5' hO5'; obtain ⟨g0, g1, g2, g3, g4, g5, g6⟩ := ptf_cells hB6; have hfr6 := hB6.2.1; have hlt6 := hB6.2.2) | (go_at_call 51; (with_reducible refine (rf_has8' F 8 _ _ hFb (by omega) rfl).mono ?_); rintro e w7 ⟨rfl, hw7⟩; have hw7' := hw7.symm; subst hw7'; clear hw7))
    have hR7 := hR6.far (b' := b) (by omega) 2 (.int .i64 Y)
    have hB7 := ptf_y hB6 Y
    have hS7 := hS6.setCell (p := ⟨b, 2, none⟩) (show w.heap.size ≤ b by omega) (.int .i64 Y)
    have hO7 := own_far hO6 b 2 (.int .i64 Y) hvb
    refine wp_named fun wb hwb => ?_
    rw [← hwb] at hR7 hB7 hS7 hO7
    simp only at hB7
    clear hwb hR6 hB6 hS6 hO6 hN6 hR5 hB5 hS5 hO5 hN5 hR4 hB4 hS4 hO4 g0 g1 g2 g3 g4 g5 g6 hfr6 hlt6 hst4
    obtain ⟨g0, g1, g2, g3, g4, g5, g6⟩ := ptf_cells hB7
    have hfr7 := hB7.2.1
    have hlt7 := hB7.2.2
    obtain ⟨z, hz⟩ : ∃ z, z = x + 4 + m + m := ⟨_, rfl⟩
    rw [← hz] at hst6
    have hzn : z ≤ x + 8 := by omega
    have HZ := Lib.hid hz
    clear hz
    go_cut [8] (fun y wx => y = .pointer (some ⟨b, 0, none⟩) ∧ Cm8 w b A n c f z (nm8 F) E0 G X Y (.slice Av l.length cv) l wx)
    case first =>
      by_cases h8 : Has8 F 8
      · have HK := Lib.hid (show nm8 F = 1 by unfold nm8; rw [if_pos h8])
        have tokA := True.intro
        go_wp2_with (go_at_call 49; have _t := tokA; (with_reducible refine (rf_s8 w.heap.size A n c f z 2 2 E0 _ _ _ hR7 (H0.out.on hS7) HF.out (by omega) (by omega) (by omega) hn hst6).mono ?_); rintro e w8 ⟨M, p8, e8, rfl, hR8, hN8, hst8, hM8, _⟩; have hS8 := hN8.2 w hS7 (Nat.le_refl _); have hO8 := hO7.near hN8 (own_ne hO7 (Nat.lt_succ_self _)); have hB8 := hB7.near hN8 (by omega); have HM8 := Lib.hid hM8; clear hM8 tokA g0 g1 g2 g3 g4 g5 g6 hfr7 hlt7; obtain ⟨g0, g1, g2, g3, g4, g5, g6⟩ := ptf_cells hB8; have hfr8 := hB8.2.1; have hlt8 := hB8.2.2)
        go_meet
        rw [HK.out]
        refine ⟨rfl, ?_⟩
        with_reducible exact cm8_k1 hR8 hB8 hst8 HM8.out hO8 hS8 hbq hvb
      · by_cases h64 : Has8 F 64
        · have HK := Lib.hid (show nm8 F = 2 by unfold nm8; rw [if_neg h8, if_pos h64])
          have tokA := True.intro
          go_wp2_with (first | (go_at_call 49; have _t := tokA; (with_reducible refine (rf_s8 w.heap.size A n c f z 2 2 E0 _ _ _ hR7 (H0.out.on hS7) HF.out (by omega) (by omega) (by omega) hn hst6).mono ?_); rintro e w8 ⟨M, p8, e8, rfl, hR8, hN8, hst8, hM8, _⟩; have hS8 := hN8.2 w hS7 (Nat.le_refl _); have hO8 := hO7.near hN8 (own_ne hO7 (Nat.lt_succ_self _)); have hB8 := hB7.near hN8 (by omega); have HM8 := Lib.hid hM8; clear hM8 tokA g0 g1 g2 g3 g4 g5 g6 hfr7 hlt7; obtain ⟨g0, g1, g2, g3, g4, g5, g6⟩ := ptf_cells hB8; have hfr8 := hB8.2.1; have hlt8 := hB8.2.2; have hR8' := hR8.far (b' := b) (by omega) 3 (.int .i64 M); have hB8' := ptf_m0 hB8 M; have hS8' := hS8.setCell (p := ⟨b, 3, none⟩) (show w.heap.size ≤ b by omega) (.int .i64 M); have hO8' := own_far hO8 b 3 (.int .i64 M) hvb; have tokB := True.intro) | (go_at_call 49; have _t := tokB; (with_reducible refine (rf_s8 w.heap.size A n c f (z + 2) 2 2 E0 _ _ _ hR8' (H0.out.on hS8') HF.out (by omega) (by omega) (by omega) hn hst8).mono ?_); rintro e w9 ⟨M2, p9, e9, rfl, hR9, hN9, hst9, hM9, _⟩; have hS9 := hN9.2 w hS8' (Nat.le_refl _); have hO9 := hO8'.near hN9 (own_ne hO8' (Nat.lt_succ_self _)); have hB9 := hB8'.near hN9 (by omega); have HM9 := Lib.hid hM9; clear hM9 tokB g0 g1 g2 g3 g4 g5 g6 hfr8 hlt8; obtain ⟨g0, g1, g2, g3, g4, g5, g6⟩ := ptf_cells hB9; have hfr9 := hB9.2.1; have hlt9 := hB9.2.2) | (go_at_call 51; (with_reducible refine (rf_has8' F _ _ _ hFb (by omega) rfl).mono ?_); rintro e w7 ⟨rfl, hw7⟩; have hw7' := hw7.symm; subst hw7'; clear hw7))
          go_meet
          rw [HK.out]
          refine ⟨rfl, ?_⟩
          have hM0 : e9 = 0 → M = sgn 2 (numAt f z 2) := fun e => HM8.out (StR.zero hst8 hst9 e)
          with_reducible exact cm8_k2 hR9 hB9 hst9 hM0 HM9.out hO9 hS9 hbq hvb
        · by_cases h128 : Has8 F 128
          · have HK := Lib.hid (show nm8 F = 4 by unfold nm8; rw [if_neg h8, if_neg h64, if_pos h128])
            go_wp2_with (go_at_call 51; (with_reducible refine (rf_has8' F _ _ _ hFb (by omega) rfl).mono ?_); rintro e w7 ⟨rfl, hw7⟩; have hw7' := hw7.symm; subst hw7'; clear hw7)
            clear g0 g1 g2 g3 g4 g5 g6 hfr7 hlt7
            go_loopw [10] (fun y wx => L48 w b A n c f z E0 G X Y (.slice Av l.length cv) l y wx) (fun y _ => 4 - (intOf y).toNat)
            case atStart => exact ⟨0, _, _, _, by omega, rfl, hR7, hB7, hst6, fun _ => rfl, hO7, hS7⟩
            case round =>
              obtain ⟨i, P, E, p, hi, rfl, hRi, hBi, hsti, hPi, hOi, hSi⟩ := hrel
              have HPi := Lib.hid hPi
              clear hPi
              obtain ⟨g0, g1, g2, g3, g4, g5, g6⟩ := ptf_cells hBi
              have hfri := hBi.2.1
              have hlti := hBi.2.2
              have hi' : i = 0 ∨ i = 1 ∨ i = 2 ∨ i = 3 ∨ i = 4 := by omega
              clear hi
              rcases hi' with rfl | rfl | rfl | rfl | rfl

              · go_wp2_with (go_at_call 49; (with_reducible refine (rf_s8 w.heap.size A n c f (z + 2 * 0) 2 2 E0 _ _ _ hRi (H0.out.on hSi) HF.out (by omega) (by omega) (by omega) hn hsti).mono ?_); rintro e w8 ⟨M, p8, e8, rfl, hR8, hN8, hst8, hM8, _⟩; have hS8 := hN8.2 w hSi (Nat.le_refl _); have hO8 := hOi.near hN8 (own_ne hOi (Nat.lt_succ_self _)); have hB8 := hBi.near hN8 (by omega); have HM8 := Lib.hid hM8; clear hM8 g0 g1 g2 g3 g4 g5 g6 hfri hlti; obtain ⟨g0, g1, g2, g3, g4, g5, g6⟩ := ptf_cells hB8; have hfr8 := hB8.2.1; have hlt8 := hB8.2.2)
                go_roundw
                case rel =>
                  have hP9 : e8 = 0 → P = p48 f z 0 G X Y := fun e => HPi.out (StR.zero hsti hst8 e)
                  with_reducible exact l48_0 hR8 hB8 hst8 HM8.out hP9 hO8 hS8 hbq hvb (by omega)
                case measure => simp [intOf]

              · go_wp2_with (go_at_call 49; (with_reducible refine (rf_s8 w.heap.size A n c f (z + 2 * 1) 2 2 E0 _ _ _ hRi (H0.out.on hSi) HF.out (by omega) (by omega) (by omega) hn hsti).mono ?_); rintro e w8 ⟨M, p8, e8, rfl, hR8, hN8, hst8, hM8, _⟩; have hS8 := hN8.2 w hSi (Nat.le_refl _); have hO8 := hOi.near hN8 (own_ne hOi (Nat.lt_succ_self _)); have hB8 := hBi.near hN8 (by omega); have HM8 := Lib.hid hM8; clear hM8 g0 g1 g2 g3 g4 g5 g6 hfri hlti; obtain ⟨g0, g1, g2, g3, g4, g5, g6⟩ := ptf_cells hB8; have hfr8 := hB8.2.1; have hlt8 := hB8.2.2)
                go_roundw
                case rel =>
                  have hP9 : e8 = 0 → P = p48 f z 1 G X Y := fun e => HPi.out (StR.zero hsti hst8 e)
                  with_reducible exact l48_1 hR8 hB8 hst8 HM8.out hP9 hO8 hS8 hbq hvb (by omega)
                case measure => simp [intOf]

              · go_wp2_with (go_at_call 49; (with_reducible refine (rf_s8 w.heap.size A n c f (z + 2 * 2) 2 2 E0 _ _ _ hRi (H0.out.on hSi) HF.out (by omega) (by omega) (by omega) hn hsti).mono ?_); rintro e w8 ⟨M, p8, e8, rfl, hR8, hN8, hst8, hM8, _⟩; have hS8 := hN8.2 w hSi (Nat.le_refl _); have hO8 := hOi.near hN8 (own_ne hOi (Nat.lt_succ_self _)); have hB8 := hBi.near hN8 (by omega); have HM8 := Lib.hid hM8; clear hM8 g0 g1 g2 g3 g4 g5 g6 hfri hlti; obtain ⟨g0, g1, g2, g3, g4, g5, g6⟩ := ptf_cells hB8; have hfr8 := hB8.2.1; have hlt8 := hB8.2.2)
                go_roundw
                case rel =>
                  have hP9 : e8 = 0 → P = p48 f z 2 G X Y := fun e => HPi.out (StR.zero hsti hst8 e)
                  with_reducible exact l48_2 hR8 hB8 hst8 HM8.out hP9 hO8 hS8 hbq hvb (by omega)
                case measure => simp [intOf]

              · go_wp2_with (go_at_call 49; (with_reducible refine (rf_s8 w.heap.size A n c f (z + 2 * 3) 2 2 E0 _ _ _ hRi (H0.out.on hSi) HF.out (by omega) (by omega) (by omega) hn hsti).mono ?_); rintro e w8 ⟨M, p8, e8, rfl, hR8, hN8, hst8, hM8, _⟩; have hS8 := hN8.2 w hSi (Nat.le_refl _); have hO8 := hOi.near hN8 (own_ne hOi (Nat.lt_succ_self _)); have hB8 := hBi.near hN8 (by omega); have HM8 := Lib.hid hM8; clear hM8 g0 g1 g2 g3 g4 g5 g6 hfri hlti; obtain ⟨g0, g1, g2, g3, g4, g5, g6⟩ := ptf_cells hB8; have hfr8 := hB8.2.1; have hlt8 := hB8.2.2)
                go_roundw
                case rel =>
                  have hP9 : e8 = 0 → P = p48 f z 3 G X Y := fun e => HPi.out (StR.zero hsti hst8 e)
                  with_reducible exact l48_3 hR8 hB8 hst8 HM8.out hP9 hO8 hS8 hbq hvb (by omega)
                case measure => simp [intOf]

              · go_wp2_with fail
                go_meet
                rw [HK.out]
                refine ⟨rfl, ?_⟩
                with_reducible exact cm8_k4 hRi hBi hsti HPi.out hOi hSi
          · have HK := Lib.hid (show nm8 F = 0 by unfold nm8; rw [if_neg h8, if_neg h64, if_neg h128])
            go_wp2_with (go_at_call 51; (with_reducible refine (rf_has8' F _ _ _ hFb (by omega) rfl).mono ?_); rintro e w7 ⟨rfl, hw7⟩; have hw7' := hw7.symm; subst hw7'; clear hw7)
            go_meet
            rw [HK.out]
            refine ⟨rfl, ?_⟩
            with_reducible exact cm8_k0 hR7 hB7 hst6 hO7 hS7
    obtain ⟨rfl, P, E8, p8, hR8, hB8, hst8a, hP8, hO8, hS8⟩ := hcut
    have hst8 : StR n (x + sz8 F) E0 p8 E8 := by
      have e1 := HM.out; have e2 := HZ.out
      have e3 : z + 2 * nm8 F = x + sz8 F := by unfold sz8; omega
      rw [← e3]; exact hst8a
    clear hst8a
    obtain ⟨hend0, hend1⟩ := ps8_end hPs hst8
    obtain ⟨c0, c1, c2, f1, f2, hq⟩ := rdr_cells hR8
    by_cases hE8 : E8 = 0
    · obtain ⟨hpe, hFe, hp8⟩ := hend0 hE8
      obtain ⟨h3, hpx, hxn⟩ := hst8.none hE8
      have e6z : e6 = 0 := by
        by_cases e1 : e6 = 0
        · exact e1
        · have := (hst6.some e1).2 h3; have e2 := HM.out; have e3 := HZ.out; unfold sz8 at hxn; omega
      have e5z : e5 = 0 := by
        by_cases e1 : e5 = 0
        · exact e1
        · have := (hst5.some e1).2 h3; have e2 := HM.out; unfold sz8 at hxn; omega
      have e3z : e3 = 0 := by
        by_cases e1 : e3 = 0
        · exact e1
        · have := (hst3.some e1).2 rfl; unfold sz8 at hxn; omega
      have hPx : P = pt8 f x := by
        rw [hP8 hE8, HG3.out e3z, HX5.out e5z, HY6.out e6z]
        exact pt8_of hFe HM.out HZ.out
      subst hE8
      rw [← hFe] at hp8
      subst hp8
      have HST := Lib.hid (show StR n (x + sz8 F) 3 ((x + sz8 F : Nat) : Int) 0 from .inr ⟨rfl, rfl, rfl, hxn⟩)
      have hG1 := HG.out
      have hlast := fun k h => go_last (l := l) (f := f) (n := n) k hpe h
      have hfull := fun h => go_full (l := l) (f := f) (n := n) hpe h
      have hnext := fun k h => go_next (l := l) (f := f) (n := n) k hpe h
      rw [← hFe, ← hPx] at hlast hnext
      rw [← hFe] at hfull
      have HL := Lib.hid hlast
      have HFU := Lib.hid hfull
      have HNX := Lib.hid hnext
      obtain ⟨q0, q1, q2, q3, q4, q5, q6⟩ := P
      obtain ⟨g0, g1, g2, g3, g4, g5, g6⟩ := ptf_cells hB8
      simp only at g0 g1 g2 g3 g4 g5 g6
      have hlt8 := hB8.2.2
      clear hlast hfull hnext hPx hFe hpe hend0 hend1 hP8 hPs hst8 hst6 hst5 hst3 HX5 HY6 HG3 HF2 HE hpx h3 e6z e5z e3z hG1
      by_cases c32 : Has8 F 32
      · by_cases hl63 : l.length = 63
        · have hG2 := HG.out
          rw [hl63, HFU.out c32] at hG2
          have E2 := Lib.hid (show rdAns8 f n = ⟨7, [], 0, 0⟩ by rw [E.out, hG2]; unfold fin8; rw [if_pos (by simp)])
          have hl64 : decide ((64 : Int) ≤ (l.length : Int) + 1) = true := by simp; omega
          have hl65 : (64 : Int) ≤ (l.length : Int) + 1 := by omega
          clear hG2 hl63
          go_wp2_with (first | (at_builtin; refine wpList_append_g rfl _ _ 59 44 rfl (by omega) ptV_len ptV_one 56 Try.underlying59 infoPt (w.heap.size + 1) (.slice Av l.length cv) l rfl (hO8.alloc _) _ _ _ [⟨q0, q1, q2, q3, q4, q5, q6⟩] rfl (part_one _ _ rfl _ _ _ _ _ _ _ _) (by simp only [List.length_cons, List.length_nil]; omega) (by simp only [List.length_cons, List.length_nil, maxLen]; omega) (by simp; omega) ?_; intro v9 w9 hO9 hg9 hb9; have hS9 : Since w w9 := (since_grown (hS8.alloc _) hg9 (fun q hq => by have := (hb9 q hq).1; omega)); have hR9 := (hR8.alloc _).grownB hg9 (own_ne hO8 (Nat.lt_succ_self _)); obtain ⟨A9, c9, rfl, hc9, hr9⟩ := hO9.rd (by omega) ptV_len; have hN9 : (l ++ [(⟨q0, q1, q2, q3, q4, q5, q6⟩ : Pt8)]).length = l.length + 1 := (by simp); rw [hN9] at hO9 hc9 ⊢; clear hg9 hb9) | (go_at_call 51; (with_reducible refine (rf_has8' F _ _ _ hFb (by omega) rfl).mono ?_); rintro e w7 ⟨rfl, hw7⟩; have hw7' := hw7.symm; subst hw7'; clear hw7))
          go_ret3
          exact rdpost8 E2.out (by first | rfl | simp) RdG.nil (Nat.le_refl _) Nw.zero hS9
        · have hl64 : decide ((64 : Int) ≤ (l.length : Int) + 1) = false := by simp; omega
          have hl65 : ¬ (64 : Int) ≤ (l.length : Int) + 1 := by omega
          obtain ⟨k, hk⟩ : ∃ k, 63 - l.length = k + 1 := ⟨63 - l.length - 1, by omega⟩
          have hG2 := HG.out
          rw [hk, HNX.out k c32] at hG2
          have HG2 := Lib.hid hG2
          have HK := Lib.hid hk
          clear hG2 hk
          go_wp2_with (first | (at_builtin; refine wpList_append_g rfl _ _ 59 44 rfl (by omega) ptV_len ptV_one 56 Try.underlying59 infoPt (w.heap.size + 1) (.slice Av l.length cv) l rfl (hO8.alloc _) _ _ _ [⟨q0, q1, q2, q3, q4, q5, q6⟩] rfl (part_one _ _ rfl _ _ _ _ _ _ _ _) (by simp only [List.length_cons, List.length_nil]; omega) (by simp only [List.length_cons, List.length_nil, maxLen]; omega) (by simp; omega) ?_; intro v9 w9 hO9 hg9 hb9; have hS9 : Since w w9 := (since_grown (hS8.alloc _) hg9 (fun q hq => by have := (hb9 q hq).1; omega)); have hR9 := (hR8.alloc _).grownB hg9 (own_ne hO8 (Nat.lt_succ_self _)); obtain ⟨A9, c9, rfl, hc9, hr9⟩ := hO9.rd (by omega) ptV_len; have hN9 : (l ++ [(⟨q0, q1, q2, q3, q4, q5, q6⟩ : Pt8)]).length = l.length + 1 := (by simp); rw [hN9] at hO9 hc9 ⊢; clear hg9 hb9) | (go_at_call 51; (with_reducible refine (rf_has8' F _ _ _ hFb (by omega) rfl).mono ?_); rintro e w7 ⟨rfl, hw7⟩; have hw7' := hw7.symm; subst hw7'; clear hw7))
          go_roundw
          case rel =>
            refine ⟨_, x + sz8 F, hO9, by rw [hN9]; omega, hxn, hR9, hS9, Lib.hid ?_⟩
            rw [hN9, HG2.out, show 63 - (l.length + 1) = k by have := HK.out; omega]
          case measure => show 64 - (l.length + 1) < 64 - l.length; omega
      · have hG2 := HG.out
        rw [HL.out _ c32] at hG2
        by_cases c256 : Has8 F 256
        · go_upto_region 37 with (first | (at_builtin; refine wpList_append_g rfl _ _ 59 44 rfl (by omega) ptV_len ptV_one 56 Try.underlying59 infoPt (w.heap.size + 1) (.slice Av l.length cv) l rfl (hO8.alloc _) _ _ _ [⟨q0, q1, q2, q3, q4, q5, q6⟩] rfl (part_one _ _ rfl _ _ _ _ _ _ _ _) (by simp only [List.length_cons, List.length_nil]; omega) (by simp only [List.length_cons, List.length_nil, maxLen]; omega) (by simp; omega) ?_; intro v9 w9 hO9 hg9 hb9; have hS9 : Since w w9 := (since_grown (hS8.alloc _) hg9 (fun q hq => by have := (hb9 q hq).1; omega)); have hR9 := (hR8.alloc _).grownB hg9 (own_ne hO8 (Nat.lt_succ_self _)); obtain ⟨A9, c9, rfl, hc9, hr9⟩ := hO9.rd (by omega) ptV_len; have hN9 : (l ++ [(⟨q0, q1, q2, q3, q4, q5, q6⟩ : Pt8)]).length = l.length + 1 := (by simp); rw [hN9] at hO9 hc9 ⊢; clear hg9 hb9) | (go_at_call 51; (with_reducible refine (rf_has8' F _ _ _ hFb (by omega) rfl).mono ?_); rintro e w7 ⟨rfl, hw7⟩; have hw7' := hw7.symm; subst hw7'; clear hw7) | (go_at_call 50; (with_reducible refine (rf_u8 w.heap.size A n c f (x + sz8 F) 3 _ _ _ hR9 (H0.out.on hS9) HF.out (by omega) hn HST.out).mono ?_); rintro e wu ⟨N, pu, eu, rfl, hRu, hNu, hstu, hFu, hFub⟩; have hSu := hNu.2 w hS9 (Nat.le_refl _); obtain ⟨d0, d1, d2, d3, d4, d5⟩ := rdr_cells hRu))
          obtain ⟨_, _, eo, _, hru⟩ := (hO9.near hNu (own_ne hO9 (Nat.lt_succ_self _))).rd (by omega) ptV_len
          rw [hN9] at eo
          injection eo with eo1 eo2 eo3
          subst eo1
          have HFu := Lib.hid hFu
          clear eo2 eo3 hFu g0 g1 g2 g3 g4 g5 g6 c0 c1 c2 f1 f2 hq hR9 hO9 hr9 hR8 hB8 hO8 hR7 hB7 hO7
          by_cases heu : eu = 0
          · obtain ⟨_, hpu, hqn⟩ := hstu.none heu
            have hN := HFu.out heu
            subst heu
            subst hpu
            obtain ⟨N', hN'⟩ : ∃ N' : Nat, N = N' := ⟨N.toNat, by omega⟩
            subst hN'
            have hfl : fl8 f (x + sz8 F) = N' := hN.symm
            have hNi : (N' : Int) < 65536 := hFub.2
            by_cases hfit : x + sz8 F + 2 + N' ≤ n
            · have E2 := Lib.hid (show rdAns8 f n = ⟨0, l ++ [⟨q0, q1, q2, q3, q4, q5, q6⟩], x + sz8 F + 2, N'⟩ by rw [E.out, hG2]; unfold fin8; rw [if_neg (by simp), if_neg (by simp [c256]), if_neg (by simp only; omega), if_neg (by simp only; omega)]; simp [hfl])
              have HC := Lib.hid fun (y : Int) (hy : y = ((x + sz8 F + 2 : Nat) : Int)) => rcut_l A n c f (x + sz8 F + 2) N' y (N' : Int) wu (H0.out.on hSu) hy rfl hfit (by omega) hnc
              clear hG2 hN hfl hFub
              go_wp2_with (go_at_call 52; (with_reducible refine (HC.out _ (by omega)).mono ?_); rintro e wz ⟨Az, cz, rfl, hmz, hNz, hSz⟩)
              go_ret3
              exact rdpost8 E2.out hN9.symm (hru.on hSz) hmz (hNz.low hSu.below.size) (hSu.trans hSz)
            · have E2 := Lib.hid (show rdAns8 f n = ⟨3, [], 0, 0⟩ by rw [E.out, hG2]; unfold fin8; rw [if_neg (by simp), if_neg (by simp [c256]), if_neg (by simp only; omega), if_pos (by simp only; omega)])
              have HC := Lib.hid fun (y : Int) (hy : y = ((x + sz8 F + 2 : Nat) : Int)) => rcut_l_no A n c f (x + sz8 F + 2) N' y (N' : Int) wu (H0.out.on hSu) hy rfl (by omega) (by omega) (by omega) (by omega) hnc
              clear hG2 hN hfl hFub
              go_wp2_with (go_at_call 52; (with_reducible refine (HC.out _ (by omega)).mono ?_); rintro e wz ⟨Az, cz, rfl, hSz⟩)
              go_ret3
              exact rdpost8 E2.out (by first | rfl | simp) RdG.nil (Nat.le_refl _) Nw.zero (hSu.trans hSz)
          · obtain ⟨he3, hnn⟩ := hstu.some heu
            subst he3
            have E2 := Lib.hid (show rdAns8 f n = ⟨3, [], 0, 0⟩ by rw [E.out, hG2]; unfold fin8; rw [if_neg (by simp), if_neg (by simp [c256]), if_pos (by simp only; have := hnn rfl; omega)])
            clear hG2 hnn heu
            go_wp2_with fail
            go_quiet (fail)
            go_wp2_with fail
            go_ret3
            exact rdpost8 E2.out (by first | rfl | simp) RdG.nil (Nat.le_refl _) Nw.zero (hSu.drewN _)
        · have E2 := Lib.hid (show rdAns8 f n = ⟨0, l ++ [⟨q0, q1, q2, q3, q4, q5, q6⟩], 0, 0⟩ by rw [E.out, hG2]; unfold fin8; rw [if_neg (by simp), if_pos c256])
          clear hG2
          go_wp2_with (first | (at_builtin; refine wpList_append_g rfl _ _ 59 44 rfl (by omega) ptV_len ptV_one 56 Try.underlying59 infoPt (w.heap.size + 1) (.slice Av l.length cv) l rfl (hO8.alloc _) _ _ _ [⟨q0, q1, q2, q3, q4, q5, q6⟩] rfl (part_one _ _ rfl _ _ _ _ _ _ _ _) (by simp only [List.length_cons, List.length_nil]; omega) (by simp only [List.length_cons, List.length_nil, maxLen]; omega) (by simp; omega) ?_; intro v9 w9 hO9 hg9 hb9; have hS9 : Since w w9 := (since_grown (hS8.alloc _) hg9 (fun q hq => by have := (hb9 q hq).1; omega)); have hR9 := (hR8.alloc _).grownB hg9 (own_ne hO8 (Nat.lt_succ_self _)); obtain ⟨A9, c9, rfl, hc9, hr9⟩ := hO9.rd (by omega) ptV_len; have hN9 : (l ++ [(⟨q0, q1, q2, q3, q4, q5, q6⟩ : Pt8)]).length = l.length + 1 := (by simp); rw [hN9] at hO9 hc9 ⊢; clear hg9 hb9) | (go_at_call 51; (with_reducible refine (rf_has8' F _ _ _ hFb (by omega) rfl).mono ?_); rintro e w7 ⟨rfl, hw7⟩; have hw7' := hw7.symm; subst hw7'; clear hw7))
          go_ret3
          exact rdpost8 E2.out hN9.symm hr9 (Nat.zero_le _) Nw.zero hS9
    · have hG1 := HG.out
      have hpe := hend1 hE8
      rw [go_bad _ (by rw [hpe]; exact hE8)] at hG1
      have E2 := Lib.hid (show rdAns8 f n = ⟨E8, [], 0, 0⟩ by rw [E.out, hG1, hpe]; unfold fin8; rw [if_pos hE8])
      have d0 : (E8 == 0) = false := by simpa using hE8
      have d1 : (E8 != 0) = true := by simpa using hE8
      clear hG1 hpe hend0 hend1 hP8
      go_wp2_with fail
      go_quiet (fail)
      go_wp2_with fail
      go_ret3
      exact rdpost8 E2.out (by first | rfl | simp) RdG.nil (Nat.le_refl _) Nw.zero (hS8.drewN _)
end Go.Proofs.Ytcjjcjpkmjbfkaa
