/-
  Points as keys of a map.
-/
import Derived.Test.YtckochcocflleaaGreatMgG
import Derived.DeepKeys4
import Derived.Maps.OwnSet
import Derived.Maps.RangeWalk
namespace Go.Proofs.YtckochcocflleaaGreat
open Go.RowKit Go.Maps
set_option linter.unusedVariables false

theorem laidOut0 : laidOutB Tryz.prog = true := by kernel_rfl
theorem rowPt : (34 : TypeId) < Tryz.prog.types.size := of_decide_eq_true (by kernel_rfl)
theorem widePt : (match Tryz.prog.underlying 34 with | some (.array _ _) | some (.struct _) => true | _ => false) = true := by kernel_rfl
set_option maxRecDepth 100000 in
theorem lawPt : Keyed Tryz.prog 34 := Keyed.of_law (deep_law_laid laidOut0 (m := 2) (by omega) rowPt (by kernel_rfl) widePt)
theorem keyPt : Tryz.prog.keyType 34 = true := by kernel_rfl
theorem cellsPt : Tryz.prog.cellsOf 34 = 2 := by kernel_rfl
theorem cellsIn : Tryz.prog.cellsOf 3 = 1 := by kernel_rfl
theorem sizeTy : ∃ n, Tryz.prog.types.size = n + 1 := Nat.exists_eq_succ_of_ne_zero (fun h => by have := rowPt; rw [h] at this; exact absurd this (Nat.not_lt_zero _))
/-- A point as a key. -/
def kP (x y : Int) : Lit := .string (keyBytes [.int .i64 x, .int .i64 y])
theorem lits_int {d : Nat} {n : Int} (h : (Lit.int .i64 n).wf = true) : Tryz.prog.keyLits (d + 1) 3 [.int .i64 n] = some [.int .i64 n] := by
  simp [Program.keyLits, Tryz.underlying3, h]
theorem keyOf_pt {x y : Int} (hx : (Lit.int .i64 x).wf = true) (hy : (Lit.int .i64 y).wf = true) : keyOf Tryz.prog 34 (Pt x y) = some (kP x y) := by
  obtain ⟨n, hn⟩ := sizeTy
  have hu := Tryz.underlying34
  unfold keyOf
  rw [hu]
  have hf : (Pt x y).formed Tryz.prog 34 = true := by
    unfold Pt
    simp [Value.formed, hu, cellsPt]
  have hl : Tryz.prog.keyLits (Tryz.prog.types.size + 1) 34 (Pt x y).cells.toList = some [.int .i64 x, .int .i64 y] := by
    rw [hn]
    unfold Pt
    simp only [Program.keyLits, hu, Value.cells, cellsPt]
    simp [cellsIn, Tryz.underlying3, hx, hy]
  simp only [keyPt, hf, hl]
  rfl
theorem wf_of64 {x : Int} (h : In64 x) : (Lit.int .i64 x).wf = true := WalkArith.wf_i64 (by unfold In64 at h; omega)
theorem kP_key {x y : Int} (hx : (Lit.int .i64 x).wf = true) (hy : (Lit.int .i64 y).wf = true) : WideAt.IsKeyLit (kP x y) := lawPt.key (keyOf_pt hx hy)
theorem kP_inj {x y u v : Int} (hx : (Lit.int .i64 x).wf = true) (hy : (Lit.int .i64 y).wf = true) (hu : (Lit.int .i64 u).wf = true) (hv : (Lit.int .i64 v).wf = true) (h : kP x y = kP u v) : x = u ∧ y = v := by
  have e := lawPt.inj (keyOf_pt hx hy) (h ▸ keyOf_pt hu hv)
  unfold Pt at e
  simpa using e
set_option maxRecDepth 100000 in
theorem keyOf_pt_inv {v : Value} {kl : Lit} (h : keyOf Tryz.prog 34 v = some kl) : ∃ x y : Int, v = Pt x y ∧ kl = kP x y ∧ (Lit.int .i64 x).wf = true ∧ (Lit.int .i64 y).wf = true := by
  obtain ⟨n, hn⟩ := sizeTy
  have hu := Tryz.underlying34
  have h0 := h
  unfold keyOf at h
  rw [hu] at h
  simp only [keyPt, Bool.true_and] at h
  split at h
  · rename_i hf
    cases v <;> simp [Value.formed, hu] at hf
    rename_i cs
    rw [cellsPt] at hf
    obtain ⟨l⟩ := cs
    match l, hf with
    | [c0, c1], _ =>
      rw [hn] at h
      simp only [Program.keyLits, hu, Value.cells, cellsPt] at h
      cases c0 <;> first | (simp [cellsIn, Tryz.underlying3] at h; done) | skip
      cases c1 <;> first | (simp [cellsIn, Tryz.underlying3] at h; done) | skip
      rename_i q x r y hy
      simp [cellsIn, Tryz.underlying3] at h
      by_cases c : q = .i64 ∧ (Lit.int .i64 x).wf = true
      · by_cases c' : r = .i64 ∧ (Lit.int .i64 y).wf = true
        · obtain ⟨rfl, wx⟩ := c
          obtain ⟨rfl, wy⟩ := c'
          have hk := keyOf_pt wx wy
          exact ⟨x, y, rfl, Option.some.inj (h0.symm.trans hk), wx, wy⟩
        · rw [if_pos c, if_neg c'] at h; simp at h
      · rw [if_neg c] at h; simp at h
  · cases h
/-- The keys of a list of points. -/
def kL (L : List (Int × Int)) : List Lit := L.map fun e => kP e.1 e.2
def WfL (L : List (Int × Int)) : Prop := ∀ e ∈ L, (Lit.int .i64 e.1).wf = true ∧ (Lit.int .i64 e.2).wf = true
theorem kL_key {L : List (Int × Int)} (h : WfL L) : ∀ x ∈ kL L, WideAt.IsKeyLit x := by
  intro x hx
  obtain ⟨e, he, rfl⟩ := List.mem_map.1 hx
  exact kP_key (h e he).1 (h e he).2
theorem mem_addKey {L : List Lit} {x y : Lit} (h : x ∈ L ∨ x = y) : x ∈ addKey L y := by
  unfold addKey
  split
  · rename_i ha
    rcases h with h | rfl
    · exact h
    · obtain ⟨z, hz, hs⟩ := List.any_eq_true.1 ha
      rw [← WideAt.sameKey_eq hs]
      exact hz
  · rcases h with h | rfl
    · exact List.mem_append_left _ h
    · simp
theorem mem_addKeys : ∀ (xs L : List Lit) (x : Lit), (x ∈ L ∨ x ∈ xs) → x ∈ xs.foldl addKey L
  | [], L, x, h => by simpa using h
  | y :: r, L, x, h => by
    rw [List.foldl_cons]
    refine mem_addKeys r _ x ?_
    rcases h with h | h
    · exact .inl (mem_addKey (.inl h))
    · rcases List.mem_cons.1 h with rfl | h
      · exact .inl (mem_addKey (.inr rfl))
      · exact .inr h
theorem all_addKeys {k : Lit} (hk : WideAt.IsKeyLit k) : ∀ xs : List Lit, (∀ x ∈ xs, x = k) → xs.foldl addKey [k] = [k]
  | [], _ => rfl
  | y :: r, h => by
    rw [List.foldl_cons, h y (by simp)]
    have e : addKey [k] k = [k] := by unfold addKey; simp [WideAt.sameKey_self hk]
    rw [e]
    exact all_addKeys hk r (fun x hx => h x (by simp [hx]))
theorem two_mem {L : List Lit} {a b : Lit} (ha : a ∈ L) (hb : b ∈ L) (hne : a ≠ b) : 2 ≤ L.length := by
  match L, ha, hb with
  | [x], ha, hb => simp at ha hb; exact absurd (ha.trans hb.symm) hne
  | x :: y :: r, _, _ => simp
section
variable {u : DataW Unit} {L : List (Int × Int)}
/-- How many different points there are: none, one, more. -/
theorem size_one {e : Int × Int} (h : WfL L) (he : e ∈ L) (hall : ∀ x ∈ L, x = e) : Maps.size (setOf u (kL L)) = 1 := by
  rw [size_setOf u _ (kL_key h)]
  cases L with
  | nil => cases he
  | cons a r =>
    have ha := hall a (by simp)
    subst ha
    show ((r.map fun e => kP e.1 e.2).foldl addKey (addKey [] (kP a.1 a.2))).length = 1
    have e1 : addKey [] (kP a.1 a.2) = [kP a.1 a.2] := rfl
    rw [e1, all_addKeys (kP_key (h a (by simp)).1 (h a (by simp)).2) _ (fun x hx => by
      obtain ⟨y, hy, rfl⟩ := List.mem_map.1 hx
      rw [hall y (by simp [hy])])]
    rfl
theorem size_two {e f : Int × Int} (h : WfL L) (he : e ∈ L) (hf : f ∈ L) (hne : e ≠ f) : 2 ≤ Maps.size (setOf u (kL L)) := by
  rw [size_setOf u _ (kL_key h)]
  refine two_mem (a := kP e.1 e.2) (b := kP f.1 f.2) (mem_addKeys _ _ _ (.inr (List.mem_map.2 ⟨e, he, rfl⟩))) (mem_addKeys _ _ _ (.inr (List.mem_map.2 ⟨f, hf, rfl⟩))) (fun hh => hne ?_)
  obtain ⟨h1, h2⟩ := kP_inj (h e he).1 (h e he).2 (h f hf).1 (h f hf).2 hh
  exact Prod.ext h1 h2
theorem size_nil : Maps.size (setOf u (kL [])) = 0 := rfl
theorem has_kL {x y : Int} (h : WfL L) (hx : (Lit.int .i64 x).wf = true) (hy : (Lit.int .i64 y).wf = true) : Maps.has (setOf u (kL L)) (kP x y) = true ↔ (x, y) ∈ L := by
  rw [has_setOf u _ _ (kL_key h), List.any_eq_true]
  constructor
  · rintro ⟨z, hz, hs⟩
    obtain ⟨e, he, rfl⟩ := List.mem_map.1 hz
    obtain ⟨h1, h2⟩ := kP_inj (h e he).1 (h e he).2 hx hy (WideAt.sameKey_eq hs)
    rw [← h1, ← h2]
    exact he
  · exact fun hh => ⟨kP x y, List.mem_map.2 ⟨(x, y), hh, rfl⟩, WideAt.sameKey_self (kP_key hx hy)⟩
end
theorem Row.grown {w w' : World} {b n B : Nat} {f : Nat → Value} (h : Row w b n f) (hg : w.grownBy w' (some B)) (hb : b ≠ B) : Row w' b n f := by
  have e := hg.block b h.2.2 (by simpa using hb)
  refine ⟨fun j hj => ?_, fun j => ?_, Nat.lt_of_lt_of_le h.2.2 hg.size⟩
  · rw [← h.1 j hj]; simp only [World.cell?, e]
  · rw [← h.2.1 j]; simp only [World.frozen?, e]
end Go.Proofs.YtckochcocflleaaGreat
