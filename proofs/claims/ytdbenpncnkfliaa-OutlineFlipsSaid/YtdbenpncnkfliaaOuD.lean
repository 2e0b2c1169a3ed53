/-
  Layer 11: the pieces of a contour, as a list; own rows of pieces.
-/
import Derived.Test.YtdbenpncnkfliaaOuC
import Derived.Test.YtdbenpncnkfliaaKit9
namespace Go.Proofs.Ytdbenpncnkfliaa
open Go.RowKit Go.ChangeShapes Go.WideShapes Go.Deep
set_option linter.unusedVariables false

/-- The cells of pieces, one behind the other. -/
def sgL (s : Sg) : List Value := [.int .i64 s.ax, .int .i64 s.ay, .int .i64 s.cx, .int .i64 s.cy, .int .i64 s.bx, .int .i64 s.bz, .bool s.k]
def cellsL (L : List Sg) : List Value := L.flatMap sgL
theorem cellsL_snoc (L : List Sg) (s : Sg) : cellsL (L ++ [s]) = cellsL L ++ sgL s := by unfold cellsL; simp
theorem sgL_tab (s : Sg) : tab 7 (fun j => (sgL s).getD j undef) = sgL s := rfl
theorem sgL_ones (s : Sg) : ∀ u ∈ sgL s, u.oneCell' = true := by
  intro u hu
  simp only [sgL, List.mem_cons, List.not_mem_nil, or_false] at hu
  rcases hu with rfl | rfl | rfl | rfl | rfl | rfl | rfl <;> rfl
/-- A row of pieces that the call has made. -/
def OwnS (w : World) (base : Nat) (v : Value) (L : List Sg) : Prop := w.ownsRow base 37 7 v L.length (cellsL L)
theorem OwnS.since {w w' : World} {base : Nat} {v : Value} {L : List Sg} (h : OwnS w base v L) (k : Since w w') : OwnS w' base v L := own_since_k (n := L.length) h k
theorem OwnS.nil (w : World) (base : Nat) : OwnS w base (.slice none 0 0) [] := World.ownsRow_nil _ _ _ _
theorem infoSeg : (Try.prog.info? 37).map (fun i => (i.zero, i.size, i.bytes)) = some (some (.agg #[.int .i64 0, .int .i64 0, .int .i64 0, .int .i64 0, .int .i64 0, .int .i64 0, .bool false]), 7, 56) := by kernel_rfl
/-- append of one piece, just built. -/
theorem wpList_append_seg {w : World} {ops : Array Oper} {rest : List Oper} {o : Oper} {a : Act} {Q : Exit → Act → World → Prop} (hgd : o.guard = none) (s x : Operand)
    (ho : o.op = .call { callee := .builtin .append, args := #[s, x], argTypes := #[25, 25] })
    (base : Nat) (v : Value) (L : List Sg) (hs : a.eval s = v) (hown : OwnS w base v L) (b c : Nat) (p : Sg) (hx : a.eval x = .slice (some ⟨b, 0, none⟩) 1 c) (hp : SegAt w b p) (hL : L.length ≤ 1000000) (hbase : base ≤ w.heap.size)
    (h : ∀ v' w', OwnS w' base v' (L ++ [p]) → w.grownBy w' v.ownBlock → (∀ q, v.ownBlock = some q → base ≤ q) → wpList Try.prog ops Q rest (a.put o.dst v') w') :
    wpList Try.prog ops Q (o :: rest) a w := by
  obtain ⟨i0, hi, hz0, hz1, hz2⟩ := info_parts infoSeg
  obtain ⟨h1, h2, h3, h4, h5, h6, h7, h8⟩ := hp
  have hr : Rd w w.heap.size (some ⟨b, 0, none⟩) (1 * 7) (fun j => (sgL p).getD j undef) := fun _ => ⟨b, 0, rfl, h8, fun j hj => by
    rw [Nat.zero_add]
    have hh : j = 0 ∨ j = 1 ∨ j = 2 ∨ j = 3 ∨ j = 4 ∨ j = 5 ∨ j = 6 := by omega
    rcases hh with rfl | rfl | rfl | rfl | rfl | rfl | rfl <;> assumption⟩
  have hone : ∀ u ∈ tab (1 * 7) (fun j => (sgL p).getD j undef), u.oneCell' = true := by
    rw [show 1 * 7 = 7 from rfl, sgL_tab]; exact sgL_ones p
  refine wpList_append_k w hgd s x 25 ho base 37 i0 _ 7 56 Try.underlying25 hi hz0 hz1 hz2 rfl (by decide) v L.length (cellsL L) hs hown w.heap.size _ 1 c _ hx hr hone (by omega) (by simp only [maxLen]; omega) hbase (fun v' w' h9 hg => h v' w' ?_ hg (fun q hq => ?_))
  · rw [show 1 * 7 = 7 from rfl, sgL_tab, ← cellsL_snoc] at h9
    unfold OwnS
    rw [List.length_append]
    exact h9
  · unfold OwnS at hown
    rcases hown.2 with ⟨rfl, _⟩ | ⟨g, cap, cur, rfl, hb, _⟩
    · cases hq
    · simp only [Value.ownBlock, Option.some.injEq] at hq; omega
/-- A piece that isn't a point alone. -/
def sgOk (s : Sg) : Bool := !(s.ax == s.bx && s.ay == s.bz) || (s.k && !(s.cx == s.ax && s.cy == s.ay))
def addS (L : List Sg) (s : Sg) : List Sg := if sgOk s then L ++ [s] else L
section
variable (f n : Nat) (X Y : Nat → Int) (O : Nat → Bool)
/-- One knot's piece: where the way is, the pieces so far. -/
def stepS (h : Int × Int) (L : List Sg) (i : Nat) : (Int × Int) × List Sg :=
  if O ((f + i) % n) then
    (if O ((f + i + 1) % n) then ((X ((f + i + 1) % n), Y ((f + i + 1) % n)), addS L ⟨h.1, h.2, 0, 0, X ((f + i + 1) % n), Y ((f + i + 1) % n), false⟩) else (h, L))
  else
    (if O ((f + i + 1) % n) then ((X ((f + i + 1) % n), Y ((f + i + 1) % n)), addS L ⟨h.1, h.2, X ((f + i) % n), Y ((f + i) % n), X ((f + i + 1) % n), Y ((f + i + 1) % n), true⟩)
     else ((mid (X ((f + i) % n)) (X ((f + i + 1) % n)), mid (Y ((f + i) % n)) (Y ((f + i + 1) % n))), addS L ⟨h.1, h.2, X ((f + i) % n), Y ((f + i) % n), mid (X ((f + i) % n)) (X ((f + i + 1) % n)), mid (Y ((f + i) % n)) (Y ((f + i + 1) % n)), true⟩))
def runS (h : Int × Int) : Nat → (Int × Int) × List Sg
  | 0 => (h, [])
  | i + 1 => stepS f n X Y O (runS h i).1 (runS h i).2 i
end
def startS (n : Nat) (X Y : Nat → Int) (O : Nat → Bool) : Int × Int := if firstOn O n < n then (X (firstOn O n), Y (firstOn O n)) else (mid (X (n - 1)) (X 0), mid (Y (n - 1)) (Y 0))
def frs (n : Nat) (O : Nat → Bool) : Nat := if firstOn O n < n then firstOn O n else 0
def segsL (n : Nat) (X Y : Nat → Int) (O : Nat → Bool) : List Sg := if n = 0 then [] else (runS (frs n O) n X Y O (startS n X Y O) n).2
theorem addS_len (L : List Sg) (s : Sg) : (addS L s).length ≤ L.length + 1 := by unfold addS; split <;> simp
theorem runS_len (f n : Nat) (X Y : Nat → Int) (O : Nat → Bool) (h : Int × Int) : ∀ i, (runS f n X Y O h i).2.length ≤ i
  | 0 => by simp [runS]
  | i + 1 => by
    have ih := runS_len f n X Y O h i
    have hs : ∀ s, (addS (runS f n X Y O h i).2 s).length ≤ i + 1 := fun s => Nat.le_trans (addS_len _ s) (by omega)
    unfold runS stepS
    split <;> split
    · exact hs _
    · simp only; omega
    · exact hs _
    · exact hs _
end Go.Proofs.Ytdbenpncnkfliaa
