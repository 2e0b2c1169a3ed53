/-
  Texts of this seat, put together: each with its own head.
-/
import Derived.Test.YteckkcpnfeoehaaGreatDoorMpI
import Derived.Test.YteckkcpnfeoehaaGreatDoorMpH
import Derived.Test.YteckkcpnfeoehaaGreatDoorMpK
import Derived.Test.YteckkcpnfeoehaaGreatDoorMpL
import Derived.Test.YteckkcpnfeoehaaGreatDoorMpM
import Derived.Test.YteckkcpnfeoehaaGreatDoorMnAe
import Derived.Deep.MidRow

/-
  Layer 9: a font, as lists and numbers: its tables' bytes, which fonts are right, what is read. No walk.
-/
namespace Go.Proofs.YteckkcpnfeoehaaGreatDoor
set_option maxRecDepth 100000
open Go.RowKit Go.ChangeShapes Go.WideShapes Go.Deep
set_option linter.unusedVariables false
set_option linter.unusedSimpArgs false

abbrev tgHead : ByteArray := { data := #[104, 101, 97, 100] }
abbrev tgMaxp : ByteArray := { data := #[109, 97, 120, 112] }
abbrev tgHhea : ByteArray := { data := #[104, 104, 101, 97] }
abbrev tgHmtx : ByteArray := { data := #[104, 109, 116, 120] }
abbrev tgLoca : ByteArray := { data := #[108, 111, 99, 97] }
abbrev tgGlyf : ByteArray := { data := #[103, 108, 121, 102] }
abbrev tgGvar : ByteArray := { data := #[103, 118, 97, 114] }
def has9 (TT : List Tb) (s : ByteArray) : Bool := TT.any (eqT s)
def dat9 (TT : List Tb) (s : ByteArray) : List Int := ((TT.find? (eqT s)).map Tb.data).getD []
/-- What is looked at of head, of maxp. -/
structure Hd9 where
  (em a b c d : Int) (l : Bool)
deriving DecidableEq
structure Mx9 where
  (g p c q r e d : Int)
deriving DecidableEq
def hd9 (f : Nat → Int) (n : Nat) : Hd9 := ⟨hdM f n, hdS f n 36, hdS f n 38, hdS f n 40, hdS f n 42, hdLg f n⟩
def mx9 (f : Nat → Int) (n : Nat) : Mx9 := ⟨mxN f n 4, mxN f n 6, mxN f n 8, mxN f n 10, mxN f n 12, mxN f n 28, mxN f n 30⟩
/-- A table of numbers of these bytes. -/
abbrev ofL {α : Type} (F : (Nat → Int) → Nat → α) (L : List Int) : α := F (fnL L) L.length
def three9 (TT : List Tb) : Bool := has9 TT tgHead && has9 TT tgMaxp && has9 TT tgHhea
/-- What the tables head, maxp and hhea tell; or an error. -/
def fldE (TT : List Tb) : Int :=
  if three9 TT = false then 8
  else if ofL hdE (dat9 TT tgHead) ≠ 0 then ofL hdE (dat9 TT tgHead)
  else if ofL mxE (dat9 TT tgMaxp) ≠ 0 then ofL mxE (dat9 TT tgMaxp)
  else ofL ctE (dat9 TT tgHhea)
def fldH (TT : List Tb) : Hd9 := if fldE TT = 0 then ofL hd9 (dat9 TT tgHead) else ⟨0, 0, 0, 0, 0, false⟩
def fldM (TT : List Tb) : Mx9 := if fldE TT = 0 then ofL mx9 (dat9 TT tgMaxp) else ⟨0, 0, 0, 0, 0, 0, 0⟩
def fldC (TT : List Tb) : Int := if fldE TT = 0 then ofL ctN (dat9 TT tgHhea) else 0
/-- A font. -/
structure Fn9 where
  (TT : List Tb) (h : Hd9) (m : Mx9) (MM : List (Int × Int)) (ct : Int) (GG : List (List Int))
def mtX (MM : List (Int × Int)) (j : Nat) : Int := (MM.getD j (0, 0)).1
def mtY (MM : List (Int × Int)) (j : Nat) : Int := (MM.getD j (0, 0)).2
def sumB (GG : List (List Int)) : Nat := (GG.map List.length).sum
/-- Where a glyph begins. -/
def pl9 (GG : List (List Int)) (j : Nat) : Int := (sumB (GG.take j) : Int)
def locE (F : Fn9) : Int := wrE F.h.l (pl9 F.GG) (F.GG.length + 1)
def locB (F : Fn9) : List Int := (List.range (wrN F.h.l (pl9 F.GG) (F.GG.length + 1))).map (wrF F.h.l (pl9 F.GG))
def hmtE (F : Fn9) : Int := pmE (mtX F.MM) (mtY F.MM) F.MM.length F.ct
def hmtB (F : Fn9) : List Int := (List.range (pmN (mtX F.MM) (mtY F.MM) F.MM.length F.ct)).map (pmF (mtX F.MM) (mtY F.MM) F.ct.toNat)
def allE (F : Fn9) : Int := if locE F ≠ 0 then locE F else hmtE F
/-- All tables, with those that are made. -/
def all9 (F : Fn9) : List Tb := withT (withT (withT F.TT ⟨tgLoca, locB F⟩) ⟨tgGlyf, F.GG.flatten⟩) ⟨tgHmtx, hmtB F⟩
def agr9 (F : Fn9) : Prop := fldE F.TT = 0 ∧ fldH F.TT = F.h ∧ fldM F.TT = F.m ∧ fldC F.TT = F.ct
instance (F : Fn9) : Decidable (agr9 F) := by unfold agr9; infer_instance
def made9 (TT : List Tb) : Bool := TT.any (fun T => eqT tgLoca T || eqT tgGlyf T || eqT tgHmtx T)
def pre9 (F : Fn9) : Prop := (1 ≤ F.GG.length ∧ F.GG.length ≤ 1024) ∧ made9 F.TT = false ∧ has9 F.TT tgGvar = false ∧ agr9 F ∧ F.m.g = (F.GG.length : Int) ∧ F.MM.length = F.GG.length
instance (F : Fn9) : Decidable (pre9 F) := by unfold pre9; infer_instance
def right9 (F : Fn9) : Prop := pre9 F ∧ allE F = 0 ∧ right4 (all9 F)
noncomputable def Right9 (F : Fn9) : Bool := @decide (right9 F) (Classical.propDecidable _)
theorem right9_iff {F : Fn9} : Right9 F = true ↔ right9 F := by unfold Right9; exact @decide_eq_true_iff _ (Classical.propDecidable _)
theorem right9_no {F : Fn9} (h : ¬ right9 F) : Right9 F = false := by
  cases hR : Right9 F
  · rfl
  · exact absurd (right9_iff.1 hR) h
theorem right9_yes {F : Fn9} (h : right9 F) : Right9 F = true := right9_iff.2 h
/-- The places that a table of them tells; the glyphs there. -/
def glyE (P D : List Int) (l : Bool) (n : Int) : Int := if rdE (fnL P) P.length l n ≠ 0 then rdE (fnL P) P.length l n else if (D.length : Int) < lcV (fnL P) l n.toNat then 3 else 0
def glyG (P D : List Int) (l : Bool) (n : Nat) : List (List Int) := (List.range n).map (fun i => cutL D (lcV (fnL P) l i).toNat ((lcV (fnL P) l (i + 1)).toNat - (lcV (fnL P) l i).toNat))
def none9 : Fn9 := ⟨[], ⟨0, 0, 0, 0, 0, false⟩, ⟨0, 0, 0, 0, 0, 0, 0⟩, [], 0, []⟩
/-- What bytes are read as: an error, a font. -/
def rdT9 (TT : List Tb) : Int × Fn9 :=
  if has9 TT tgGvar = true then (11, none9)
  else if (has9 TT tgLoca && has9 TT tgGlyf && has9 TT tgHmtx) = false then (8, none9)
  else if fldE TT ≠ 0 then (fldE TT, none9)
  else if (fldM TT).g < 1 ∨ 1024 < (fldM TT).g then (6, none9)
  else if glyE (dat9 TT tgLoca) (dat9 TT tgGlyf) (fldH TT).l (fldM TT).g ≠ 0 then (glyE (dat9 TT tgLoca) (dat9 TT tgGlyf) (fldH TT).l (fldM TT).g, none9)
  else if mtE (dat9 TT tgHmtx).length (fldC TT) (fldM TT).g ≠ 0 then (mtE (dat9 TT tgHmtx).length (fldC TT) (fldM TT).g, none9)
  else (0, ⟨TT.filter (fun T => !(eqT tgLoca T || eqT tgGlyf T || eqT tgHmtx T)), fldH TT, fldM TT,
    (List.range (fldM TT).g.toNat).map (fun i => (mtA (fnL (dat9 TT tgHmtx)) (fldC TT).toNat i, mtB (fnL (dat9 TT tgHmtx)) (fldC TT).toNat i)), fldC TT, glyG (dat9 TT tgLoca) (dat9 TT tgGlyf) (fldH TT).l (fldM TT).g.toNat⟩)
def rd9 (L : List Int) : Int × Fn9 := if (rd4 L).1 ≠ 0 then ((rd4 L).1, none9) else rdT9 (rd4 L).2
end Go.Proofs.YteckkcpnfeoehaaGreatDoor

/-
  A struct of many cells in a box of its own, told by the list of its cells.
-/
namespace Go.Proofs.YteckkcpnfeoehaaGreatDoor
set_option maxRecDepth 100000
open Go.RowKit Go.ChangeShapes Go.WideShapes Go.Deep
set_option linter.unusedVariables false
set_option linter.unusedSimpArgs false

/-- Block b's first cells are these, and none is frozen. -/
def BoxL (w : World) (b : Nat) (cs : List Value) : Prop := w.rangeAt b 0 cs ∧ (∀ j, w.frozen? ⟨b, j, none⟩ = false) ∧ b < w.heap.size
section
variable {w w' : World} {b : Nat} {cs : List Value}
theorem BoxL.lt (h : BoxL w b cs) : b < w.heap.size := h.2.2
theorem BoxL.frz (h : BoxL w b cs) (j : Nat) : w.frozen? ⟨b, j, none⟩ = false := h.2.1 j
theorem BoxL.new (w : World) (b : Nat) (hb : b = w.heap.size) (t : TypeId) (C : Array Value) : BoxL (w.alloc (.cells C t)) b C.toList := by
  subst hb
  refine ⟨fun j v hv => ?_, fun j => ?_, by simp⟩
  · rw [Nat.zero_add, World.cell?_alloc_new]; simpa using hv
  · rw [frozen?_alloc_cells]; simp [World.frozen?]
theorem BoxL.since (h : BoxL w b cs) (k : Since w w') : BoxL w' b cs := ⟨fun j v hv => (k.1 _ _ h.2.2).trans (h.1 j v hv), fun j => (k.2.1 _ _ h.2.2).trans (h.2.1 j), k.2.2.1 _ h.2.2⟩
theorem BoxL.drew (h : BoxL w b cs) : BoxL w.drew b cs := h
theorem BoxL.alloc (h : BoxL w b cs) (o : Obj) : BoxL (w.alloc o) b cs := h.since ((Since.refl w).alloc o)
theorem BoxL.cell (h : BoxL w b cs) (j : Nat) {v : Value} (hv : cs[j]? = some v) : w.cell? ⟨b, j, none⟩ = some v := by
  have := h.1 j v hv
  rwa [Nat.zero_add] at this
theorem BoxL.set (h : BoxL w b cs) (i : Nat) (v : Value) : BoxL (w.setCell ⟨b, i, none⟩ v) b (cs.set i v) := by
  refine ⟨fun j u hu => ?_, fun j => (World.frozen?_setCell _ _ _ _).trans (h.2.1 j), by simpa [World.setCell] using h.2.2⟩
  rw [cell_set, Nat.zero_add]
  by_cases e : i = j
  · subst e
    have hl : i < cs.length := by
      rcases Nat.lt_or_ge i cs.length with h | h
      · exact h
      · rw [List.getElem?_eq_none (by rw [List.length_set]; exact h)] at hu; cases hu
    rw [List.getElem?_set_self hl] at hu
    injection hu with hu
    subst hu
    rw [if_pos ⟨rfl, rfl⟩, h.cell i (List.getElem?_eq_getElem hl)]; rfl
  · rw [List.getElem?_set_ne e] at hu
    rw [if_neg (fun x => e x.2)]
    exact h.cell j hu
theorem BoxL.far (h : BoxL w b cs) {b' : Nat} (hb : b' ≠ b) (o : Nat) (v : Value) : BoxL (w.setCell ⟨b', o, none⟩ v) b cs :=
  ⟨fun j u hu => by rw [cell_set, if_neg (fun e => hb e.1)]; exact h.1 j u hu, fun j => (World.frozen?_setCell _ _ _ _).trans (h.2.1 j), by simpa [World.setCell] using h.2.2⟩
theorem BoxL.there (h : BoxL w b cs) {o n : Nat} (hn : o + n ≤ cs.length) : w.there b o n := fun j hj => by
  have h1 : cs[o + j]? = some cs[o + j] := List.getElem?_eq_getElem (by omega)
  exact ⟨by rw [h.cell _ h1]; rfl, h.2.1 _⟩
theorem BoxL.part (h : BoxL w b cs) {o : Nat} {ds : List Value} (hd : ∀ j v, ds[j]? = some v → cs[o + j]? = some v) : w.rangeAt b o ds := fun j v hv => h.cell _ (hd j v hv)
theorem size_setCells (b : Nat) : ∀ (vs : List Value) (o : Nat) (w : World), (w.setCells b o vs).heap.size = w.heap.size
  | [], _, _ => rfl
  | v :: r, o, w => by rw [World.setCells, size_setCells b r]; simp [World.setCell]
theorem Since.setCells {a : World} (b : Nat) (hb : a.heap.size ≤ b) : ∀ (vs : List Value) (o : Nat) {w : World}, Since a w → Since a (w.setCells b o vs)
  | [], _, _, h => h
  | v :: r, o, w, h => by rw [World.setCells]; exact Since.setCells b hb r (o + 1) (h.setCell (p := ⟨b, o, none⟩) hb v)
theorem BoxL.setAll (h : BoxL w b cs) {ds : List Value} (hl : ds.length = cs.length) : BoxL (w.setCells b 0 ds) b ds :=
  ⟨World.rangeAt_setCells_same w b 0 ds (h.there (by omega)), fun j => (World.frozen?_setCells b ds 0 w _).trans (h.2.1 j), by rw [size_setCells]; exact h.2.2⟩
/-- A part of the struct is another one. -/
theorem BoxL.setPart (h : BoxL w b cs) {o : Nat} {vs ds : List Value} (hl : o + vs.length ≤ cs.length) (hd : ∀ j v, ds[j]? = some v → (∃ i, j = o + i ∧ vs[i]? = some v) ∨ ((j < o ∨ o + vs.length ≤ j) ∧ cs[j]? = some v)) : BoxL (w.setCells b o vs) b ds := by
  refine ⟨fun j v hv => ?_, fun j => (World.frozen?_setCells b vs o w _).trans (h.2.1 j), by rw [size_setCells]; exact h.2.2⟩
  rcases hd j v hv with ⟨i, rfl, hi⟩ | ⟨hj, hc⟩
  · have := World.rangeAt_setCells_same w b o vs (h.there hl) i v hi
    rwa [Nat.zero_add]
  · have hr : w.rangeAt b j [v] := fun k u hu => by
      cases k with
      | zero => simp only [List.getElem?_cons_zero, Option.some.injEq] at hu; subst hu; exact h.cell j hc
      | succ k => simp at hu
    have := World.rangeAt_setCells_apart hr b o vs (by simp only [List.length_cons, List.length_nil]; omega) 0 v rfl
    rw [Nat.zero_add]
    exact this
theorem nigh_setCells (b : Nat) : ∀ (vs : List Value) (o : Nat) {a w : World}, Nigh b a w → Nigh b a (w.setCells b o vs)
  | [], _, _, _, h => h
  | v :: r, o, a, w, h => by rw [World.setCells]; exact nigh_setCells b r (o + 1) (h.set o v)
theorem BoxL.nigh {q : Nat} (h : BoxL w b cs) (k : Nigh q w w') (hb : b ≠ q) : BoxL w' b cs := by
  have e := k.1.2 b h.2.2 hb
  refine ⟨fun j v hv => ?_, fun j => ?_, Nat.lt_of_lt_of_le h.2.2 k.1.1⟩
  · rw [← h.1 j v hv]; simp only [World.cell?, e]
  · rw [← h.2.1 j]; simp only [World.frozen?, e]
variable {P : Program}
theorem BoxL.load (h : BoxL w b cs) {ty : TypeId} {d : TypeDesc} (hu : P.underlying ty = some d) (hd : d.isRow = true) (hi : (P.info? ty).map (·.size) = some cs.length) : (Instr.loadAt ty (.pointer (some ⟨b, 0, none⟩))).run P w = .ok (.agg cs.toArray) w := run_loadAt_mid w b 0 ty cs d h.1 hu hd hi
theorem BoxL.store (h : BoxL w b cs) {ty : TypeId} {C : Array Value} {n : Nat} (hi : (P.info? ty).map (·.size) = some n) (hn : C.size = n) (hl : cs.length = n) (h1 : C.all (·.oneCell') = true) : (Instr.storeAt ty (.pointer (some ⟨b, 0, none⟩)) (.agg C)).run P w = .ok () (w.setCells b 0 C.toList) :=
  run_storeAt_mid w b 0 ty C (h.there (by omega)) (by rw [hi, hn]) h1
/-- A whole struct is stored into its box; read out of it. -/
theorem wpList_store_box {ops : Array Oper} {rest : List Oper} {op : Oper} {a : Act} {Q : Exit → Act → World → Prop} (hgd : op.guard = none) (ty : TypeId) (x y : Operand) (ho : op.op = .store ty x y) (hx : a.eval x = .pointer (some ⟨b, 0, none⟩)) (hB : BoxL w b cs) (ds : List Value) (hy : a.eval y = .agg ds.toArray) (hl : ds.length = cs.length)
    (hi : (P.info? ty).map (·.size) = some ds.length) (h1 : ds.toArray.all (·.oneCell') = true) (h : ∀ w', BoxL w' b ds → Nigh b w w' → wpList P ops Q rest (a.put op.dst undef) w') : wpList P ops Q (op :: rest) a w := by
  have e : ds.toArray.size = ds.length := by simp
  refine wpList_store_mid hgd ty x y ho b 0 ds.toArray hx hy (hB.there (by omega)) (by rw [hi, e]) h1 ?_
  have h2 := h (w.setCells b 0 ds) (hB.setAll hl) (nigh_setCells b ds 0 (Nigh.refl b w))
  simpa using h2
/-- A part of a struct is stored into its box. -/
theorem wpList_store_part {ops : Array Oper} {rest : List Oper} {op : Oper} {a : Act} {Q : Exit → Act → World → Prop} (hgd : op.guard = none) (ty : TypeId) (x y : Operand) (ho : op.op = .store ty x y) (o : Nat) (hx : a.eval x = .pointer (some ⟨b, o, none⟩)) (hB : BoxL w b cs) (vs ds : List Value) (hy : a.eval y = .agg vs.toArray)
    (hi : (P.info? ty).map (·.size) = some vs.length) (h1 : vs.toArray.all (·.oneCell') = true) (hl : o + vs.length ≤ cs.length) (hd : ∀ j v, ds[j]? = some v → (∃ i, j = o + i ∧ vs[i]? = some v) ∨ ((j < o ∨ o + vs.length ≤ j) ∧ cs[j]? = some v)) (h : ∀ w', BoxL w' b ds → Nigh b w w' → wpList P ops Q rest (a.put op.dst undef) w') : wpList P ops Q (op :: rest) a w := by
  have e : vs.toArray.size = vs.length := by simp
  refine wpList_store_mid hgd ty x y ho b o vs.toArray hx hy (hB.there (by omega)) (by rw [hi, e]) h1 ?_
  have h2 := h (w.setCells b o vs) (hB.setPart hl hd) (nigh_setCells b vs o (Nigh.refl b w))
  simpa using h2
theorem wpList_load_box {ops : Array Oper} {rest : List Oper} {op : Oper} {a : Act} {Q : Exit → Act → World → Prop} (hgd : op.guard = none) (ty : TypeId) (x : Operand) (ho : op.op = .load ty x) (hx : a.eval x = .pointer (some ⟨b, 0, none⟩)) (hB : BoxL w b cs) {d : TypeDesc}
    (hu : P.underlying ty = some d) (hd : d.isRow = true) (hi : (P.info? ty).map (·.size) = some cs.length) (h : wpList P ops Q rest (a.put op.dst (.agg cs.toArray)) w) : wpList P ops Q (op :: rest) a w :=
  wpList_load_mid hgd ty x ho b 0 hx cs d hB.1 hu hd hi h
end
end Go.Proofs.YteckkcpnfeoehaaGreatDoor
