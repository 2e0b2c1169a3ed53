/-
  Layer 10: the areas of GaussWays.
-/
import Derived.Test.YtbbbojhncfdbdaaGaS
namespace Go.Proofs.Ytbbbojhncfdbdaa
open Go.RowKit Go.ChangeShapes Go.WideShapes Go.Deep
set_option linter.unusedVariables false

theorem RdP.take {w : World} {B n m : Nat} {A : Option Addr} {X Y : Nat → Int} (h : RdP w B A n X Y) (hm : m ≤ n) : RdP w B A m X Y := fun h0 => by
  obtain ⟨b, o, rfl, hb, hc⟩ := h (by omega)
  exact ⟨b, o, rfl, hb, fun j hj => hc j (by omega)⟩
theorem RdP.drop {w : World} {B n : Nat} {g o : Nat} {X Y : Nat → Int} (h : RdP w B (some ⟨g, o, none⟩) n X Y) (k : Nat) : RdP w B (some ⟨g, o + k * 2, none⟩) (n - k) (fun j => X (k + j)) (fun j => Y (k + j)) := fun h0 => by
  obtain ⟨b, o', e, hb, hc⟩ := h (by omega)
  injection e with e
  injection e with e1 e2
  subst e1 e2
  refine ⟨g, o + k * 2, rfl, hb, fun j hj => ?_⟩
  have := hc (k + j) (by omega)
  rw [show o + k * 2 + j * 2 = o + (k + j) * 2 by omega]
  exact this
theorem area_good (A : Option Addr) (n c : Nat) (X Y : Nat → Int) (hg : ∀ j, j < n → goodB (X j) (Y j) = true) (hn : n ≤ 4096) (w : World) (h : RdP w w.heap.size A n X Y) :
    Calls Try.prog 28 #[.slice A n c] w fun e w' => e = .returned (.tuple #[.int .i64 (areaTo X Y n n), .int .i64 0]) ∧ Since w w' := by
  have hh := ga_area A n c X Y w h (fun j hj => by have := goodB_iff.1 (hg j hj); unfold In64; omega) (by simp only [maxLen]; omega)
  rw [if_pos ⟨hn, allG_iff.2 hg⟩, if_neg (by omega), allG_iff.2 hg] at hh
  exact hh
theorem good_sm {x y : Int} (h : In32 x) (k : In32 y) : goodB (sm x) (sm y) = true := goodB_iff.2 (by have := sm_range h; have := sm_range k; omega)
theorem good_sm2 {x y u v : Int} (h : In32 x) (k : In32 y) (h' : In32 u) (k' : In32 v) : goodB (sm x + sm u) (sm y + sm v) = true := goodB_iff.2 (by have := sm_range h; have := sm_range k; have := sm_range h'; have := sm_range k'; omega)
theorem area_in {X Y : Nat → Int} {n : Nat} (hg : ∀ j, j < n → goodB (X j) (Y j) = true) (hn : n ≤ 2000) : IntKind.i64.wrap (areaTo X Y n n) = areaTo X Y n n := by
  have h := areaTo_range (X := X) (Y := Y) (n := n) (fun j hj => by obtain ⟨n1, n2, _, _⟩ := good_near (hg j hj); exact ⟨n1, n2⟩) n (Nat.le_refl _)
  have h1 : (n : Int) * 562949953421312 ≤ 2000 * 562949953421312 := by omega
  exact IntWalk.i64_in _ (by omega)
/-- The five areas. -/
theorem ways_areas (X Y : Nat → Int) (n K : Nat) (bx bz : Int) (hK : K < n) :
    areaTo (fun j => sm (X ((j + K) % n)) + sm bx) (fun j => sm (Y ((j + K) % n)) + sm bz) n n = areaTo (fun j => sm (X j)) (fun j => sm (Y j)) n n ∧
    areaTo (fun j => sm (X (n - 1 - j))) (fun j => sm (Y (n - 1 - j))) n n = -areaTo (fun j => sm (X j)) (fun j => sm (Y j)) n n ∧
    areaTo (fun j => sm (X j)) (fun j => sm (Y j)) (K + 1) (K + 1) + areaTo (joinP (n - K) (fun j => sm (X (K + j))) (fun _ => sm (X 0))) (joinP (n - K) (fun j => sm (Y (K + j))) (fun _ => sm (Y 0))) (n - K + 1) (n - K + 1) = areaTo (fun j => sm (X j)) (fun j => sm (Y j)) n n := by
  refine ⟨?_, ?_, ?_⟩
  · rw [area_moved (fun j => sm (X ((j + K) % n))) (fun j => sm (Y ((j + K) % n))) (sm bx) (sm bz) n]
    exact area_begun (fun j => sm (X j)) (fun j => sm (Y j)) n K
  · exact area_back (fun j => sm (X j)) (fun j => sm (Y j)) n
  · exact area_parts (fun j => sm (X j)) (fun j => sm (Y j)) n K hK
theorem good_join {X Y : Nat → Int} {n K : Nat} (h : ∀ j, j < n → In32 (X j) ∧ In32 (Y j)) (hK : K < n) : ∀ j, j < n - K + 1 → goodB (joinP (n - K) (fun j => sm (X (K + j))) (fun _ => sm (X 0)) j) (joinP (n - K) (fun j => sm (Y (K + j))) (fun _ => sm (Y 0)) j) = true := fun j hj => by
  unfold joinP
  by_cases hlt : j < n - K
  · simp only [hlt, if_true]
    exact good_sm (h _ (by omega)).1 (h _ (by omega)).2
  · simp only [hlt, if_false]
    exact good_sm (h 0 (by omega)).1 (h 0 (by omega)).2
theorem grown_cellp {w w' : World} {row : Option Nat} (hg : w.grownBy w' row) {b : Nat} (hb : b < w.heap.size) (hne : ¬ row = some b) (o : Nat) : w'.cell? ⟨b, o, none⟩ = w.cell? ⟨b, o, none⟩ := by
  have h := hg.block b hb (fun e => hne e.symm)
  simp only [World.cell?, h]
theorem own_drewp {w : World} {base n : Nat} {e : TypeId} {v : Value} {xs : List Value} (h : w.ownsRow base e 2 v n xs) : w.drew.ownsRow base e 2 v n xs := h
theorem own_empty (w : World) (base b : Nat) (hb : b = w.heap.size) (hbase : base ≤ w.heap.size) : (w.alloc (.cells #[] 23)).ownsRow base 23 2 (.slice (some ⟨b, 0, none⟩) 0 0) 0 [] := by
  subst hb
  exact ⟨rfl, .inr ⟨_, 0, #[], rfl, hbase, heap_alloc_new w _, Nat.le_refl _, by simp [maxLen], rfl, rfl⟩⟩
section
variable {P : Program} (w : World)
theorem oper_append_pts {o : Oper} {a : Act} {K : Act → World → Prop} {Q : Exit → Act → World → Prop} (s x : Operand) (t : TypeId)
    (ho : o.op = .call { callee := .builtin .append, args := #[s, x], argTypes := #[t, t] })
    (base : Nat) (i : TypeInfo) (z : Value) (ht : P.underlying t = some (.slice 23)) (hi : P.info? 23 = some i) (hz : i.zero = some z)
    (hsize : i.size = 2) (hby : i.bytes = 16) (hzs : z.cells.size = 2) (p : Value) (hs : a.eval s = p) (h3 : w.ownsRow base 23 2 p 0 [])
    (A : Option Addr) (m c : Nat) (X Y : Nat → Int) (hx : a.eval x = .slice A m c) (hr : RdP w w.heap.size A m X Y) (hn : m ≤ 2000) (hbase : base ≤ w.heap.size)
    (h : ∀ v' w', w'.ownsRow base 23 2 v' m (tab (m * 2) (PtV X Y)) → w.grownBy w' p.ownBlock → K (a.put o.dst v') w') :
    Oper.wp P o a w K Q := by
  obtain ⟨v', w', hrun, h2, h4, h5⟩ := run_append_ptb (P := P) w base t o.type 23 i z 16 ht hi hz hsize hby hzs p 0 _ h3 _ A m c X Y hr (by omega) (by simp only [maxLen]; omega) hbase
  rw [Nat.zero_add, List.nil_append] at h2
  unfold Oper.wp execOp
  simp only [ho, resolve, invoke, builtin, Sem.run_bind, Sem.run_pure, Result.andThen_ok, List.map_toArray, List.map_cons, List.map_nil, hs, hx, hrun]
  exact h _ _ h2 h4
end
end Go.Proofs.Ytbbbojhncfdbdaa
