/-
  Layer 7: writeKnots, walked.
-/
import Derived.Test.YtpplnapfpoloiaaSiQ
import Derived.Test.YtpplnapfpoloiaaSiR
import Derived.Test.YtpplnapfpoloiaaSiD
import Derived.Test.YtpplnapfpoloiaaKitT
namespace Go.Proofs.Ytpplnapfpoloiaa
open Go.RowKit Go.ChangeShapes Go.WideShapes Go.Deep
set_option linter.unusedVariables false
set_option linter.unusedSimpArgs false

theorem apart_new {α β : Type} {e1 : α → List Value} {e2 : β → List Value} {t1 t2 : TypeId} {k1 k2 b1 : Nat} {w1 w2 : World} {v1 v2 : Value} {L1 : List α} {L2 : List β} (h1 : OwnG t1 k1 e1 w1 b1 v1 L1) (h2 : OwnG t2 k2 e2 w2 w1.heap.size v2 L2) : Apart7 v1 v2 := fun q ha hb => by
  have := (h1.lt ha).2
  have := (h2.lt hb).1
  omega
theorem apart_type {α β : Type} {e1 : α → List Value} {e2 : β → List Value} {t1 t2 : TypeId} {k1 k2 b1 b2 : Nat} {w : World} {v1 v2 : Value} {L1 : List α} {L2 : List β} (h1 : OwnG t1 k1 e1 w b1 v1 L1) (h2 : OwnG t2 k2 e2 w b2 v2 L2) (ht : t1 ≠ t2) : Apart7 v1 v2 := fun q ha => own_apart h1 h2 ht ha
theorem OwnG.growA {α : Type} {enc : α → List Value} {t : TypeId} {k base : Nat} {w w' : World} {v u : Value} {L : List α} (h : OwnG t k enc w base u L) (hg : w.grownBy w' v.ownBlock) (ha : Apart7 v u) : OwnG t k enc w' base u L :=
  OwnG.grown h hg (fun q hq e => ha q e hq)
theorem int_byte_ne : 3 ≠ 5 := by decide
/-- append of bytes to bytes of the call's own; where they lie then. -/
theorem wpList_append_bb {w w0 : World} {ops : Array Oper} {rest : List Oper} {o : Oper} {a : Act} {Q : Exit → Act → World → Prop} (hgd : o.guard = none) (s x : Operand)
    (ho : o.op = .call { callee := .builtin .append, args := #[s, x], argTypes := #[26, 26] })
    (hS : Since w0 w) (base : Nat) (hb0 : w0.heap.size ≤ base) (hb1 : base ≤ w.heap.size) (v : Value) (L : List Int) (hs : a.eval s = v) (hown : OwnB w base v L) (B : Nat) (A : Option Addr) (n c : Nat) (M : List Int) (hn : n = M.length) (hx : a.eval x = .slice A n c) (hr : RdB w B A M)
    (hbytes : L.length + M.length ≤ 140737488355328)
    (h : ∀ v' w', OwnB w' base v' (L ++ M) → Since w0 w' → w.grownBy w' v.ownBlock → (v'.ownBlock = v.ownBlock ∨ v'.ownBlock = some w.heap.size) → (∀ q, v.ownBlock = some q → base ≤ q ∧ q < w.heap.size) → wpList Try.prog ops Q rest (a.put o.dst v') w') :
    wpList Try.prog ops Q (o :: rest) a w := by
  subst hn
  exact wpList_append_w hgd s x 26 26 5 5 ho (by omega) byL_len byL_one 1 Try.underlying26 Try.underlying26 infoBy base v L hs hown B A c M hx hr (by omega) (by simp only [maxLen]; omega) hb1 (fun v' w' h9 hg hlt hw => h v' w' h9 (since_grown hS hg (fun k hk => Nat.le_trans hb0 (hlt k hk).1)) hg hw hlt)
theorem wpList_append_bw {w w0 : World} {ops : Array Oper} {rest : List Oper} {o : Oper} {a : Act} {Q : Exit → Act → World → Prop} (hgd : o.guard = none) (s x : Operand)
    (ho : o.op = .call { callee := .builtin .append, args := #[s, x], argTypes := #[26, 26] })
    (hS : Since w0 w) (v : Value) (L : List Int) (hs : a.eval s = v) (hown : OwnB w w0.heap.size v L) (B : Nat) (A : Option Addr) (n c : Nat) (M : List Int) (hn : n = M.length) (hx : a.eval x = .slice A n c) (hr : RdB w B A M)
    (hbytes : L.length + M.length ≤ 140737488355328)
    (h : ∀ v' w', OwnB w' w0.heap.size v' (L ++ M) → Since w0 w' → w.grownBy w' v.ownBlock → (v'.ownBlock = v.ownBlock ∨ v'.ownBlock = some w.heap.size) → wpList Try.prog ops Q rest (a.put o.dst v') w') :
    wpList Try.prog ops Q (o :: rest) a w :=
  wpList_append_bb hgd s x ho hS w0.heap.size (Nat.le_refl _) hS.below.size v L hs hown B A n c M hn hx hr hbytes (fun v' w' h1 h2 h3 h4 _ => h v' w' h1 h2 h3 h4)
/-- append of one number, just built. -/
theorem wpList_append_ib {w w0 : World} {ops : Array Oper} {rest : List Oper} {o : Oper} {a : Act} {Q : Exit → Act → World → Prop} (hgd : o.guard = none) (s x : Operand)
    (ho : o.op = .call { callee := .builtin .append, args := #[s, x], argTypes := #[103, 103] })
    (ty : TypeId) (hS : Since w0 w) (base : Nat) (hb0 : w0.heap.size ≤ base) (hb1 : base ≤ w.heap.size) (v : Value) (L : List Int) (hs : a.eval s = v) (hown : OwnI w base v L) (b c : Nat) (y : Int) (hx : a.eval x = .slice (some ⟨b, 0, none⟩) 1 c) (hb : b = w.heap.size)
    (hbytes : L.length ≤ 3000000)
    (h : ∀ v' w', OwnI w' base v' (L ++ [y]) → Since w0 w' → (w.alloc (.cells #[.int .i64 y] ty)).grownBy w' v.ownBlock → (∀ q, v.ownBlock = some q → base ≤ q ∧ q < w.heap.size) → wpList Try.prog ops Q rest (a.put o.dst v') w') :
    wpList Try.prog ops Q (o :: rest) a (w.alloc (.cells #[.int .i64 y] ty)) :=
  wpList_append_g hgd s x 103 3 ho (by omega) inL_len inL_one 8 Try.underlying103 infoIn base v L hs (hown.alloc _) _ _ c [y] hx (in_one w b hb ty y) (by simp only [List.length_cons, List.length_nil]; omega) (by simp only [List.length_cons, List.length_nil, maxLen]; omega) (by simp; omega) (fun v' w' h9 hg hlt => h v' w' h9 (since_grown (hS.alloc _) hg (fun k hk => Nat.le_trans hb0 (hlt k hk).1)) hg (fun q hq => hown.lt hq))
theorem own_rdv {α : Type} {enc : α → List Value} {t : TypeId} {k base n c : Nat} {w : World} {A : Option Addr} {L : List α} (hk0 : 0 < k) (hk : ∀ a, (enc a).length = k) (h : OwnG t k enc w base (.slice A n c) L) : RdG k enc w w.heap.size A L := by
  obtain ⟨A', c', e, _, hr⟩ := h.rd hk0 hk
  injection e with e1 e2 e3
  rw [e1]; exact hr
theorem Tri.grown {w w' : World} {b : Nat} {x y : Int} {o : Bool} {row : Option Nat} (h : Tri w b x y o) (hg : w.grownBy w' row) (hr : ∀ q, row = some q → q ≠ b) : Tri w' b x y o := by
  obtain ⟨h1, h2, h3, h4, h5, h6, h7⟩ := h
  have hne : row ≠ some b := fun e => hr b e rfl
  have hf : ∀ j, w.frozen? ⟨b, j, none⟩ = false → w'.frozen? ⟨b, j, none⟩ = false := fun j hj => by rw [← hj]; exact World.frozen?_of_block (hg.block b h7 (fun x => hne x.symm))
  exact ⟨cell_grown h1 h7 hg hne, cell_grown h2 h7 hg hne, cell_grown h3 h7 hg hne, hf 0 h4, hf 1 h5, hf 2 h6, Nat.lt_of_lt_of_le h7 hg.size⟩
theorem or_fl7 (on : Bool) (dx dy : Int) : bits .or .i64 (bits .or .i64 (if on then 1 else 0) (sfl7 2 16 dx)) (sfl7 4 32 dy) = fl7 on dx dy := by
  unfold fl7
  rcases sfl7_x dx with ⟨_, h⟩ | ⟨_, _, h⟩ | ⟨_, _, h⟩ | ⟨_, h⟩ <;> rcases sfl7_y dy with ⟨_, k⟩ | ⟨_, _, k⟩ | ⟨_, _, k⟩ | ⟨_, k⟩ <;> rw [h, k] <;> cases on <;> decide
def xsK (S : List Kt) : List Int := S.map Kt.x
def ysK (S : List Kt) : List Int := S.map Kt.y
def osK (S : List Kt) : List Bool := S.map Kt.o
def flK (S : List Kt) : List Int := fls7 0 0 (xsK S) (ysK S) (osK S)
def sxK (S : List Kt) : List Int := stps7 0 (xsK S)
def syK (S : List Kt) : List Int := stps7 0 (ysK S)
theorem flK_snoc (S : List Kt) (k : Kt) : flK (S ++ [k]) = flK S ++ [fl7 k.o (k.x - (lastK S).x) (k.y - (lastK S).y)] := by
  unfold flK xsK ysK osK
  rw [List.map_append, List.map_append, List.map_append, List.map_cons, List.map_cons, List.map_cons, List.map_nil, List.map_nil, List.map_nil, fls7_snoc _ _ _ _ _ _ _ _ (by simp) (by simp), lastK_x, lastK_y]
theorem sxK_snoc (S : List Kt) (k : Kt) : sxK (S ++ [k]) = sxK S ++ stp7 (k.x - (lastK S).x) := by
  unfold sxK xsK
  rw [List.map_append, List.map_cons, List.map_nil, stps7_snoc, lastK_x]
theorem syK_snoc (S : List Kt) (k : Kt) : syK (S ++ [k]) = syK S ++ stp7 (k.y - (lastK S).y) := by
  unfold syK ysK
  rw [List.map_append, List.map_cons, List.map_nil, stps7_snoc, lastK_y]
theorem flK_len (S : List Kt) : (flK S).length = S.length := by
  unfold flK xsK ysK osK
  rw [fls7_len _ _ _ _ _ (by simp) (by simp)]; simp
theorem sxK_le (S : List Kt) : (sxK S).length ≤ 2 * S.length := by
  have := stps7_le (xsK S) 0
  unfold sxK; unfold xsK at this ⊢; simpa using this
theorem syK_le (S : List Kt) : (syK S).length ≤ 2 * S.length := by
  have := stps7_le (ysK S) 0
  unfold syK; unfold ysK at this ⊢; simpa using this
theorem fls7_64 : ∀ (xs ys : List Int) (os : List Bool) (vx vy : Int), ∀ g ∈ fls7 vx vy xs ys os, g < 64 := by
  intro xs
  induction xs with
  | nil => intro ys os vx vy g hg; simp [fls7] at hg
  | cons x xs ih =>
    intro ys os vx vy g hg
    cases ys with
    | nil => simp [fls7] at hg
    | cons y ys =>
      cases os with
      | nil => simp [fls7] at hg
      | cons o os =>
        unfold fls7 at hg
        rcases List.mem_cons.1 hg with rfl | h
        · exact (fl7_ok _ _ _).2
        · exact ih ys os x y g h
theorem flK_ok (S : List Kt) : ∀ g ∈ flK S, FlOk g ∧ g < 64 := fun g hg => ⟨fls7_ok _ _ _ 0 0 g hg, fls7_64 _ _ _ 0 0 g hg⟩
/-- The three rows that are made. -/
structure WkIn (w : World) (v1 v2 v3 : Value) (lb : Nat) (S : List Kt) (wr : World) : Prop where
  f : OwnI wr (lb + 1) v1 (flK S)
  x : OwnB wr (lb + 1) v2 (sxK S)
  y : OwnB wr (lb + 1) v3 (syK S)
  a : Apart7 v2 v3
  l : ∃ o, Tri wr lb (lastK S).x (lastK S).y o
  s : Since w wr
/-- A round's world: the rows, the two steps' bytes, the knot and the last one. -/
structure WkMid (w : World) (lb kb : Nat) (v1 v2 v3 vx vy : Value) (FS XS YS px py : List Int) (x1 x2 : Int) (x3 : Bool) (lx ly : Int) (lo : Bool) (wr : World) : Prop where
  f : OwnI wr (lb + 1) v1 FS
  x : OwnB wr (lb + 1) v2 XS
  y : OwnB wr (lb + 1) v3 YS
  dx : ∃ b, OwnB wr b vx px
  dy : ∃ b, OwnB wr b vy py
  a : Apart7 v2 v3
  ax : Apart7 v2 vx
  ay : Apart7 v2 vy
  by_ : Apart7 v3 vy
  k2 : ∀ q, v2.ownBlock = some q → q ≠ kb
  k3 : ∀ q, v3.ownBlock = some q → q ≠ kb
  tk : Tri wr kb x1 x2 x3
  tl : Tri wr lb lx ly lo
  s : Since w wr
section
variable {w wr w' : World} {lb kb : Nat} {v1 v2 v3 vx vy v' : Value} {FS XS YS px py : List Int} {x1 x2 lx ly : Int} {x3 lo : Bool}
theorem WkMid.alloc (h : WkMid w lb kb v1 v2 v3 vx vy FS XS YS px py x1 x2 x3 lx ly lo wr) (o : Obj) : WkMid w lb kb v1 v2 v3 vx vy FS XS YS px py x1 x2 x3 lx ly lo (wr.alloc o) :=
  ⟨h.f.alloc o, h.x.alloc o, h.y.alloc o, h.dx.imp (fun _ k => k.alloc o), h.dy.imp (fun _ k => k.alloc o), h.a, h.ax, h.ay, h.by_, h.k2, h.k3, h.tk.alloc o, h.tl.alloc o, h.s.alloc o⟩
theorem WkMid.flag (h : WkMid w lb kb v1 v2 v3 vx vy FS XS YS px py x1 x2 x3 lx ly lo wr) {G : List Int} (hO : OwnI w' (lb + 1) v' G) (hg : wr.grownBy w' v1.ownBlock) (hS : Since w w') (hk : ∀ q, v1.ownBlock = some q → q ≠ kb) : WkMid w lb kb v' v2 v3 vx vy G XS YS px py x1 x2 x3 lx ly lo w' := by
  obtain ⟨bx, hx⟩ := h.dx
  obtain ⟨b_y, hy⟩ := h.dy
  exact ⟨hO, h.x.growA hg (apart_type h.f h.x int_byte_ne), h.y.growA hg (apart_type h.f h.y int_byte_ne), ⟨bx, hx.growA hg (apart_type h.f hx int_byte_ne)⟩, ⟨b_y, hy.growA hg (apart_type h.f hy int_byte_ne)⟩, h.a, h.ax, h.ay, h.by_, h.k2, h.k3,
    h.tk.grown hg hk, h.tl.grown hg (fun q hq => by have := (h.f.lt hq).1; omega), hS⟩
theorem WkMid.xs (h : WkMid w lb kb v1 v2 v3 vx vy FS XS YS px py x1 x2 x3 lx ly lo wr) {G : List Int} (hO : OwnB w' (lb + 1) v' G) (hg : wr.grownBy w' v2.ownBlock) (hw : v'.ownBlock = v2.ownBlock ∨ v'.ownBlock = some wr.heap.size) (hS : Since w w') :
    (∃ b, OwnB w' b vy py) ∧ OwnI w' (lb + 1) v1 FS ∧ OwnB w' (lb + 1) v3 YS ∧ Apart7 v' v3 ∧ Apart7 v3 vy ∧ (∀ q, v3.ownBlock = some q → q ≠ kb) ∧ Tri w' kb x1 x2 x3 ∧ Tri w' lb lx ly lo := by
  obtain ⟨b_y, hy⟩ := h.dy
  exact ⟨⟨b_y, hy.growA hg h.ay⟩, h.f.growA hg (apart_type h.x h.f (Ne.symm int_byte_ne)), h.y.growA hg h.a, h.a.grow h.y hw, h.by_, h.k3, h.tk.grown hg h.k2, h.tl.grown hg (fun q hq => by have := (h.x.lt hq).1; omega)⟩
end
end Go.Proofs.Ytpplnapfpoloiaa
