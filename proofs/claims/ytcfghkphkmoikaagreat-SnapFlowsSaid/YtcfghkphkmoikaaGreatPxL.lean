/-
  Layer 16: a copy of lines (slices.Clone); the library's sort at any own row of lines.
-/
import Derived.Test.YtcfghkphkmoikaaGreatPxK
import Derived.Shelf.SlSortCmp.NoneTotal
import Derived.Lib.SliceRun
namespace Go.Proofs.YtcfghkphkmoikaaGreat
set_option maxRecDepth 100000
open Go.RowKit Go.Sort
set_option linter.unusedVariables false

theorem infoLn0E : (Tryz.prog.info? 25).map (fun i => (i.zero, i.size, i.bytes)) = some (some (.agg #[.int .i64 0, .int .i64 0, .int .i64 0, .int .i64 0]), 4, 32) := by kernel_rfl
theorem infoLnE : ∃ i z, Tryz.prog.info? 25 = some i ∧ i.zero = some z ∧ i.size = 4 ∧ i.bytes = 32 ∧ z.cells.size = 4 := by
  obtain ⟨i0, hi, hz0, hz1, hz2⟩ := info_parts infoLn0E
  exact ⟨i0, _, hi, hz0, hz1, hz2, rfl⟩
theorem own_empty {α : Type} (t : TypeId) (k : Nat) (enc : α → List Value) (w : World) (base g : Nat) (hb : base ≤ g) (hg : g = w.heap.size) : OwnG t k enc (w.alloc (.cells #[] t)) base (.slice (some ⟨g, 0, none⟩) 0 0) [] := by
  subst hg
  refine ⟨by simp [cellsG], .inr ⟨w.heap.size, 0, #[], rfl, hb, heap_alloc_new w _, Nat.le_refl _, by simp [maxLen], by simp, by simp [cellsG]⟩⟩
set_option maxRecDepth 100000 in
set_option maxHeartbeats 4000000 in
theorem px_clone (A : Option Addr) (c : Nat) (L : List Ln) (w : World) (hr : RdG 4 lnE w w.heap.size A L) (hL : L.length ≤ 100000) :
    Calls Tryz.prog 92 #[.slice A L.length c] w fun e w' => ∃ v, e = .returned v ∧ OwnG 25 4 lnE w' w.heap.size v L ∧ Since w w' := by
  have hnil := fun (w : World) (a : Option Addr) (n c : Nat) => Go.Lib.run_eql_slice_nil (P := Tryz.prog) w 26 25 a n c 0 0 Tryz.underlying26
  cases A with
  | none =>
    have h0 : L = [] := by
      rcases L with _ | ⟨a, l⟩
      · rfl
      · obtain ⟨b, o, h, _⟩ := hr (by simp)
        cases h
    subst h0
    go_enter Tryz.func92, Tryz.ntmps92
    go_wp2
    go_ret
    exact ⟨_, rfl, OwnG.nil _ _ _ _ _, by (repeat (first | with_reducible (exact Since.refl _) | with_reducible assumption | with_reducible (refine Since.drew ?_) | with_reducible (refine Since.drewN ?_ _) | with_reducible (refine Since.alloc ?_ _) | (with_reducible (refine Since.setCell ?_ ?_ _); rotate_left; focus (first | (simp; done) | (simp; omega) | omega)) | (with_reducible (refine Since.trans ?_ (by with_reducible assumption)))))⟩
  | some a =>
    have HR := Lib.hid hr
    clear hr
    go_enter Tryz.func92, Tryz.ntmps92
    go_wp2_with (at_builtin; refine wpList_append_g rfl _ _ 26 25 rfl (by omega) lnE_len lnE_one 32 Tryz.underlying26 infoLnE w.heap.size _ [] rfl (own_empty 25 4 lnE w w.heap.size w.heap.size (Nat.le_refl _) rfl) w.heap.size _ _ L rfl (HR.out.since (Nat.le_refl _) ((Since.refl w).alloc _)) (by simp only [List.length_nil]; omega) (by simp only [List.length_nil, maxLen]; omega) (by simp) ?_; intro v7 w7 hO7 hg7 hb7)
    have hS7 : Since w w7 := since_grown ((Since.refl w).alloc _) hg7 (fun k e => (hb7 k e).1)
    go_ret
    exact ⟨_, rfl, by simpa using hO7, hS7⟩
theorem px_sortl_any (w0 w : World) (base b : Nat) (v : Value) (L : List Ln) (hS : Since w0 w) (hb : w0.heap.size ≤ base) (hO : OwnG 25 4 lnE w base v L) (hL : L.length < 4611686018427387904)
    (hf : w.cell? ⟨b, 0, none⟩ = some (.func (.func 91) #[] #[])) (hbl : b < w.heap.size) (hbne : v.ownBlock ≠ some b) :
    Calls Tryz.prog 93 #[v, .func (.func 94) #[] #[.pointer (some ⟨b, 0, none⟩)]] w fun e w' => (∃ u, e = .returned u) ∧ ∃ L', List.Perm L' L ∧ SortedL (Go.Proofs.ltOf cmpL) L' ∧ OwnG 25 4 lnE w' base v L' ∧ Since w0 w' ∧ w'.cell? ⟨b, 0, none⟩ = some (.func (.func 91) #[] #[]) ∧ b < w'.heap.size := by
  have hO2 := hO
  obtain ⟨_, h2⟩ := hO2
  rcases h2 with ⟨rfl, h0⟩ | ⟨g, cap, cur, rfl, _⟩
  · have hl0 : L = [] := List.length_eq_zero_iff.1 h0
    subst hl0
    have h := Go.Proofs.AnyF.slices_SortFunc_none sortLn none 0 (.func (.func 94) #[] #[.pointer (some ⟨b, 0, none⟩)]) w
    change Calls Tryz.prog 93 _ _ _ at h
    refine h.mono ?_
    rintro e w' ⟨rfl, rfl⟩
    exact ⟨⟨_, rfl⟩, [], List.Perm.refl _, List.Pairwise.nil, hO, hS, hf, hbl⟩
  · have hne : b ≠ g := fun e => hbne (by rw [e]; rfl)
    refine (px_sortl w0 w base g cap b L hS hb hO hL hf hbl hne).mono ?_
    rintro e w' ⟨hv, L', hp, hs, ho, hs', hk⟩
    have hp1 := hp.length_eq
    exact ⟨hv, L', hp, hs, ho, hs', hk.cell hf hbl hne, Nat.lt_of_lt_of_le hbl hk.1⟩
end Go.Proofs.YtcfghkphkmoikaaGreat
