/-
  Texts of this seat, put together: each with its own head.
-/
import Derived.Test.YtckochcocflleaaPqBc
import Derived.Shelf.SlSortCmp.NoneTotal
import Derived.Lib.SliceRun
import Derived.BigRegion
import Derived.Laws.EntriesVeiled
import Derived.Deep.CutBlock
import Derived.Deep.DeepCutAuto

/-
  Layer 16: the library's sort at own rows of points and of lines.
-/
namespace Go.Proofs.Ytckochcocflleaa
open Go.RowKit Go.Sort
set_option linter.unusedVariables false

section
variable {α : Type} [Inhabited α] {k : Nat} {enc : α → List Value}
theorem flat_cells (hk0 : 0 < k) (hk : ∀ a, (enc a).length = k) (L : List α) (j : Nat) (hj : j < L.length * k) : (cellsG enc L)[j]? = some (flatK enc k L.toArray)[j]! := by
  rw [get_flatK enc k L.toArray j (by simpa using hj)]
  have hjk : j / k < L.length := by rw [Nat.div_lt_iff_lt_mul hk0]; exact hj
  have hm := Nat.mod_lt j hk0
  have h := cellsG_get hk L (j / k) _ (List.getElem?_eq_getElem hjk) (j % k) hm
  rw [Nat.div_add_mod' j k] at h
  rw [h]
  have e : L.toArray[j / k]! = L[j / k] := by rw [getElem!_pos L.toArray (j / k) (by simpa using hjk)]; simp
  rw [e, List.getElem?_eq_getElem (by rw [hk]; exact hm), getElem!_pos _ _ (by rw [hk]; exact hm)]
theorem own_holds (hk0 : 0 < k) (hk : ∀ a, (enc a).length = k) {t : TypeId} {base g n cap : Nat} {w : World} {L : List α} (h : OwnG t k enc w base (.slice (some ⟨g, 0, none⟩) n cap) L) : HoldsK enc k w g 0 L.toArray ∧ g < w.heap.size ∧ base ≤ g ∧ n = L.length := by
  obtain ⟨hl, h2⟩ := h
  rcases h2 with ⟨h0, _⟩ | ⟨g', cap', cur, e, hb, hh, _, _, hcs, ht⟩
  · cases h0
  · injection e with e1 e2 e3
    injection e1 with e1
    injection e1 with e1 _
    subst e1 e2 e3
    have hlt : g < w.heap.size := by
      rcases Nat.lt_or_ge g w.heap.size with h | h
      · exact h
      · rw [Array.getElem?_eq_none h] at hh; cases hh
    refine ⟨fun j hj => ?_, hlt, hb, rfl⟩
    have hj' : j < L.length * k := by simpa using hj
    have hf := flat_cells hk0 hk L j hj'
    rw [← ht, List.getElem?_take, if_pos hj'] at hf
    refine ⟨?_, ?_⟩
    · simp only [World.cell?, hh, Nat.zero_add]
      simpa using hf
    · simp [World.frozen?, hh]
theorem sort_heap (w : World) (g m : Nat) (d : Array α) (os : Array Obj) (hg : g < w.heap.size) (b : Nat) (hb : b < w.heap.size) (hne : b ≠ g) : (Go.Proofs.sortWorldK enc k w g 0 m d os).heap[b]? = w.heap[b]? := by
  unfold Go.Proofs.sortWorldK
  rw [heap_grow_old _ _ (by unfold putRowK putRow mapBlock Go.Sort.ahead; simpa using hb)]
  unfold putRowK putRow mapBlock Go.Sort.ahead
  simp only [Array.getElem?_modify]
  rw [if_neg (fun e => hne e.symm)]
theorem sort_size (w : World) (g m : Nat) (d : Array α) (os : Array Obj) : w.heap.size ≤ (Go.Proofs.sortWorldK enc k w g 0 m d os).heap.size := by
  unfold Go.Proofs.sortWorldK
  rw [size_grow]
  unfold putRowK putRow mapBlock Go.Sort.ahead
  simp
theorem sort_own (hk0 : 0 < k) (hk : ∀ a, (enc a).length = k) {t : TypeId} {base g n cap : Nat} {w : World} {L : List α} (h : OwnG t k enc w base (.slice (some ⟨g, 0, none⟩) n cap) L) (m : Nat) (d : Array α) (os : Array Obj) (hd : d.size = L.length) :
    OwnG t k enc (Go.Proofs.sortWorldK enc k w g 0 m d os) base (.slice (some ⟨g, 0, none⟩) n cap) d.toList := by
  obtain ⟨_, hlt, _, hn⟩ := own_holds hk0 hk h
  obtain ⟨hl, h2⟩ := h
  rcases h2 with ⟨h0, _⟩ | ⟨g', cap', cur, e, hb, hh, hnc, hcm, hcs, ht⟩
  · cases h0
  · injection e with e1 e2 e3
    injection e1 with e1
    injection e1 with e1 _
    subst e1 e2 e3
    have hdl : d.toList.length = L.length := by simpa using hd
    refine ⟨by rw [cellsG_len hk], .inr ⟨g, cap, putCells id 0 (flatK enc k d) cur, by rw [hdl], hb, ?_, by rw [hdl]; exact hnc, hcm, ?_, ?_⟩⟩
    · unfold Go.Proofs.sortWorldK
      rw [heap_grow_old _ _ (by unfold putRowK putRow mapBlock Go.Sort.ahead; simpa using hlt)]
      unfold putRowK putRow mapBlock Go.Sort.ahead
      simp only [Array.getElem?_modify, if_true]
      rw [hh]
      rfl
    · unfold putCells
      rw [Array.size_mapIdx]; exact hcs
    · apply List.ext_getElem?
      intro j
      rw [List.getElem?_take, hdl]
      by_cases hj : j < L.length * k
      · rw [if_pos hj]
        have hf := flat_cells hk0 hk d.toList j (by rw [hdl]; exact hj)
        rw [hf]
        have hcur : j < cur.size := by
          have : L.length * k ≤ cap * k := Nat.mul_le_mul_right _ hnc
          omega
        unfold putCells
        rw [Array.getElem?_toList, Array.getElem?_mapIdx, Array.getElem?_eq_getElem hcur]
        simp [hd, hj]
      · rw [if_neg hj, List.getElem?_eq_none (by rw [cellsG_len hk, hdl]; omega)]
theorem sort_since {w0 w : World} (hS : Since w0 w) {g : Nat} (hg : w0.heap.size ≤ g) (hlt : g < w.heap.size) (m : Nat) (d : Array α) (os : Array Obj) : Since w0 (Go.Proofs.sortWorldK enc k w g 0 m d os) :=
  since_of ⟨hS.below.os, hS.below.tape, hS.below.output, Nat.le_trans hS.below.size (sort_size w g m d os), fun b hb => (sort_heap w g m d os hlt b (Nat.lt_of_lt_of_le hb hS.below.size) (by omega)).trans (hS.below.block b hb)⟩
theorem sort_but {w : World} {g : Nat} (hlt : g < w.heap.size) (m : Nat) (d : Array α) (os : Array Obj) : KeepBut g w (Go.Proofs.sortWorldK enc k w g 0 m d os) :=
  ⟨sort_size w g m d os, fun b hb hne => sort_heap w g m d os hlt b hb hne⟩
end
theorem perm_of {α : Type} [Inhabited α] {d d' : Array α} (h : PermIn 0 d.size d d') : d'.toList.Perm d.toList ∧ d'.size = d.size := by
  obtain ⟨h1, _, h3⟩ := h
  refine ⟨?_, h1⟩
  have e1 : (d'.extract 0 d.size) = d' := by rw [← h1]; simp
  have e2 : (d.extract 0 d.size) = d := by simp
  rw [e1, e2] at h3
  exact h3
theorem cmp_lt {a b : Int} : cmpI a b < 0 ↔ a < b := by
  rcases cmp_is a b with ⟨e, k⟩ | ⟨e, k⟩ | ⟨e, k⟩ <;> omega
theorem cmpP_lt (p q : Pq) : Go.Proofs.ltOf cmpP p q = decide (p.x < q.x ∨ (p.x = q.x ∧ p.y < q.y)) := by
  unfold Go.Proofs.ltOf cmpP orI
  rw [Bool.eq_iff_iff]
  simp only [decide_eq_true_eq]
  rcases cmp_is p.x q.x with ⟨e, k⟩ | ⟨e, k⟩ | ⟨e, k⟩ <;> rcases cmp_is p.y q.y with ⟨e', k'⟩ | ⟨e', k'⟩ | ⟨e', k'⟩ <;> rw [e, e'] <;> simp <;> omega
theorem swo_pt : SWO (Go.Proofs.ltOf cmpP) where
  irrefl x := by rw [cmpP_lt]; simp
  trans x y z h1 h2 := by rw [cmpP_lt] at *; simp at *; omega
  ntrans x y z h1 h2 := by rw [cmpP_lt] at *; simp at *; omega
def cmpL (s t : Ln) : Int := cmpI (lo2 s.ax s.bx) (lo2 t.ax t.bx)
theorem cmpL_lt (s t : Ln) : Go.Proofs.ltOf cmpL s t = decide (lo2 s.ax s.bx < lo2 t.ax t.bx) := by
  unfold Go.Proofs.ltOf cmpL
  rw [Bool.eq_iff_iff]
  simp only [decide_eq_true_eq]
  exact cmp_lt
theorem swo_ln : SWO (Go.Proofs.ltOf cmpL) where
  irrefl x := by rw [cmpL_lt]; simp
  trans x y z h1 h2 := by rw [cmpL_lt] at *; simp at *; omega
  ntrans x y z h1 h2 := by rw [cmpL_lt] at *; simp at *; omega
instance : Inhabited Pq := ⟨⟨0, 0⟩⟩
instance : Inhabited Ln := ⟨⟨0, 0, 0, 0⟩⟩
def lnE (l : Ln) : List Value := [.int .i64 l.ax, .int .i64 l.ay, .int .i64 l.bx, .int .i64 l.bz]
theorem lnE_len (l : Ln) : (lnE l).length = 4 := rfl
theorem lnE_one (l : Ln) : ∀ u ∈ lnE l, u.oneCell' = true := by
  intro u hu
  simp only [lnE, List.mem_cons, List.not_mem_nil, or_false] at hu
  rcases hu with rfl | rfl | rfl | rfl <;> rfl
/-- Sorted as the sort leaves it: no later one is less than an earlier one. -/
def SortedL {α : Type} (lt : α → α → Bool) (L : List α) : Prop := L.Pairwise fun x y => lt y x = false
theorem sorted_of {α : Type} [Inhabited α] {lt : α → α → Bool} {d : Array α} {n : Nat} (hn : d.size = n) (h : SortedIn lt 0 n d) : SortedL lt d.toList := by
  unfold SortedL
  rw [List.pairwise_iff_getElem]
  intro i j hi hj hij
  have := h i j (Nat.zero_le _) hij (by rw [← hn]; simpa using hj)
  rw [getElem!_pos d i (by simpa using hi), getElem!_pos d j (by simpa using hj)] at this
  simpa using this
theorem px_sortp (w0 w : World) (base g cap : Nat) (L : List Pq) (hS : Since w0 w) (hb : w0.heap.size ≤ base) (hO : OwnG 34 2 ptL w base (.slice (some ⟨g, 0, none⟩) L.length cap) L) (hL : L.length < 4611686018427387904) :
    Calls Try.prog 68 #[.slice (some ⟨g, 0, none⟩) L.length cap, .func (.func 69) #[] #[]] w fun e w' => (∃ v, e = .returned v) ∧ ∃ L', List.Perm L' L ∧ SortedL (Go.Proofs.ltOf cmpP) L' ∧ OwnG 34 2 ptL w' base (.slice (some ⟨g, 0, none⟩) L.length cap) L' ∧ Since w0 w' ∧ KeepBut g w w' := by
  obtain ⟨hH, hlt, hbg, _⟩ := own_holds (by omega) ptL_len hO
  have hc : Go.Proofs.CmpLays Try.prog 69 #[] ptL 2 cmpP g 0 L.toArray.size w := fun m os dk _ x y => by
    refine (px_bypt x y _).mono ?_
    rintro e w' ⟨rfl, q, os', h⟩
    exact ⟨rfl, q, os', h⟩
  have h := Go.Proofs.AnyQ.slices_SortFunc sortPt 2 Try.isAgg34 Try.sizeOf34 ptL ptL_len ptL_one cmpP swo_pt 69 #[] g 0 cap L.toArray w (Go.Proofs.enters_of Try.func69 (by kernel_rfl) rfl) hc hH hlt (by simpa using hL)
  change Calls Try.prog 68 _ _ _ at h
  rw [List.size_toArray] at h
  refine h.mono ?_
  rintro e w' ⟨rfl, d', n, os, hp, hs, rfl⟩
  have hp2 := perm_of (d := L.toArray) (d' := d') (by simpa using hp)
  exact ⟨⟨_, rfl⟩, d'.toList, by simpa using hp2.1, sorted_of (by simpa using hp2.2) hs, sort_own (by omega) ptL_len hO n d' os (by simpa using hp2.2), sort_since hS (by omega) hlt n d' os, sort_but hlt n d' os⟩
theorem px_sortl (w0 w : World) (base g cap b : Nat) (L : List Ln) (hS : Since w0 w) (hb : w0.heap.size ≤ base) (hO : OwnG 38 4 lnE w base (.slice (some ⟨g, 0, none⟩) L.length cap) L) (hL : L.length < 4611686018427387904)
    (hf : w.cell? ⟨b, 0, none⟩ = some (.func (.func 88) #[] #[])) (hbl : b < w.heap.size) (hbne : b ≠ g) :
    Calls Try.prog 90 #[.slice (some ⟨g, 0, none⟩) L.length cap, .func (.func 91) #[] #[.pointer (some ⟨b, 0, none⟩)]] w fun e w' => (∃ v, e = .returned v) ∧ ∃ L', List.Perm L' L ∧ SortedL (Go.Proofs.ltOf cmpL) L' ∧ OwnG 38 4 lnE w' base (.slice (some ⟨g, 0, none⟩) L.length cap) L' ∧ Since w0 w' ∧ KeepBut g w w' := by
  obtain ⟨hH, hlt, hbg, _⟩ := own_holds (by omega) lnE_len hO
  have hc : Go.Proofs.CmpLays Try.prog 91 #[.pointer (some ⟨b, 0, none⟩)] lnE 4 cmpL g 0 L.toArray.size w := fun m os dk _ x y => by
    refine (px_bylow x y b _ ?_ ?_).mono ?_
    · have e := sort_heap (enc := lnE) (k := 4) w g m dk os hlt b hbl hbne
      rw [← hf]; simp only [World.cell?, e]
    · exact Nat.lt_of_lt_of_le hbl (sort_size w g m dk os)
    · rintro e w' ⟨rfl, q, os', h⟩
      exact ⟨rfl, q, os', h⟩
  have h := Go.Proofs.AnyQ.slices_SortFunc sortLn 4 Try.isAgg38 Try.sizeOf38 lnE lnE_len lnE_one cmpL swo_ln 91 #[.pointer (some ⟨b, 0, none⟩)] g 0 cap L.toArray w (Go.Proofs.enters_of Try.func91 (by kernel_rfl) rfl) hc hH hlt (by simpa using hL)
  change Calls Try.prog 90 _ _ _ at h
  rw [List.size_toArray] at h
  refine h.mono ?_
  rintro e w' ⟨rfl, d', n, os, hp, hs, rfl⟩
  have hp2 := perm_of (d := L.toArray) (d' := d') (by simpa using hp)
  exact ⟨⟨_, rfl⟩, d'.toList, by simpa using hp2.1, sorted_of (by simpa using hp2.2) hs, sort_own (by omega) lnE_len hO n d' os (by simpa using hp2.2), sort_since hS (by omega) hlt n d' os, sort_but hlt n d' os⟩
end Go.Proofs.Ytckochcocflleaa

/-
  Layer 16: a copy of lines (slices.Clone); the library's sort at any own row of lines.
-/
namespace Go.Proofs.Ytckochcocflleaa
open Go.RowKit Go.Sort
set_option linter.unusedVariables false

theorem infoLn0E : (Try.prog.info? 38).map (fun i => (i.zero, i.size, i.bytes)) = some (some (.agg #[.int .i64 0, .int .i64 0, .int .i64 0, .int .i64 0]), 4, 32) := by kernel_rfl
theorem infoLnE : ∃ i z, Try.prog.info? 38 = some i ∧ i.zero = some z ∧ i.size = 4 ∧ i.bytes = 32 ∧ z.cells.size = 4 := by
  obtain ⟨i0, hi, hz0, hz1, hz2⟩ := info_parts infoLn0E
  exact ⟨i0, _, hi, hz0, hz1, hz2, rfl⟩
theorem own_empty {α : Type} (t : TypeId) (k : Nat) (enc : α → List Value) (w : World) (base g : Nat) (hb : base ≤ g) (hg : g = w.heap.size) : OwnG t k enc (w.alloc (.cells #[] t)) base (.slice (some ⟨g, 0, none⟩) 0 0) [] := by
  subst hg
  refine ⟨by simp [cellsG], .inr ⟨w.heap.size, 0, #[], rfl, hb, heap_alloc_new w _, Nat.le_refl _, by simp [maxLen], by simp, by simp [cellsG]⟩⟩
set_option maxRecDepth 100000 in
set_option maxHeartbeats 4000000 in
theorem px_clone (A : Option Addr) (c : Nat) (L : List Ln) (w : World) (hr : RdG 4 lnE w w.heap.size A L) (hL : L.length ≤ 100000) :
    Calls Try.prog 89 #[.slice A L.length c] w fun e w' => ∃ v, e = .returned v ∧ OwnG 38 4 lnE w' w.heap.size v L ∧ Since w w' := by
  have hnil := fun (w : World) (a : Option Addr) (n c : Nat) => Go.Lib.run_eql_slice_nil (P := Try.prog) w 48 38 a n c 0 0 Try.underlying48
  cases A with
  | none =>
    have h0 : L = [] := by
      rcases L with _ | ⟨a, l⟩
      · rfl
      · obtain ⟨b, o, h, _⟩ := hr (by simp)
        cases h
    subst h0
    go_enter Try.func89, Try.ntmps89
    go_wp2
    go_ret
    exact ⟨_, rfl, OwnG.nil _ _ _ _ _, by (repeat (first | with_reducible (exact Since.refl _) | with_reducible assumption | with_reducible (refine Since.drew ?_) | with_reducible (refine Since.drewN ?_ _) | with_reducible (refine Since.alloc ?_ _) | (with_reducible (refine Since.setCell ?_ ?_ _); rotate_left; focus (first | (simp; done) | (simp; omega) | omega)) | (with_reducible (refine Since.trans ?_ (by with_reducible assumption)))))⟩
  | some a =>
    have HR := Lib.hid hr
    clear hr
    go_enter Try.func89, Try.ntmps89
    go_wp2_with (at_builtin; refine wpList_append_g rfl _ _ 48 38 rfl (by omega) lnE_len lnE_one 32 Try.underlying48 infoLnE w.heap.size _ [] rfl (own_empty 38 4 lnE w w.heap.size w.heap.size (Nat.le_refl _) rfl) w.heap.size _ _ L rfl (HR.out.since (Nat.le_refl _) ((Since.refl w).alloc _)) (by simp only [List.length_nil]; omega) (by simp only [List.length_nil, maxLen]; omega) (by simp) ?_; intro v7 w7 hO7 hg7 hb7)
    have hS7 : Since w w7 := since_grown ((Since.refl w).alloc _) hg7 (fun k e => (hb7 k e).1)
    go_ret
    exact ⟨_, rfl, by simpa using hO7, hS7⟩
theorem px_sortl_any (w0 w : World) (base b : Nat) (v : Value) (L : List Ln) (hS : Since w0 w) (hb : w0.heap.size ≤ base) (hO : OwnG 38 4 lnE w base v L) (hL : L.length < 4611686018427387904)
    (hf : w.cell? ⟨b, 0, none⟩ = some (.func (.func 88) #[] #[])) (hbl : b < w.heap.size) (hbne : v.ownBlock ≠ some b) :
    Calls Try.prog 90 #[v, .func (.func 91) #[] #[.pointer (some ⟨b, 0, none⟩)]] w fun e w' => (∃ u, e = .returned u) ∧ ∃ L', List.Perm L' L ∧ SortedL (Go.Proofs.ltOf cmpL) L' ∧ OwnG 38 4 lnE w' base v L' ∧ Since w0 w' ∧ w'.cell? ⟨b, 0, none⟩ = some (.func (.func 88) #[] #[]) ∧ b < w'.heap.size := by
  have hO2 := hO
  obtain ⟨_, h2⟩ := hO2
  rcases h2 with ⟨rfl, h0⟩ | ⟨g, cap, cur, rfl, _⟩
  · have hl0 : L = [] := List.length_eq_zero_iff.1 h0
    subst hl0
    have h := Go.Proofs.AnyF.slices_SortFunc_none sortLn none 0 (.func (.func 91) #[] #[.pointer (some ⟨b, 0, none⟩)]) w
    change Calls Try.prog 90 _ _ _ at h
    refine h.mono ?_
    rintro e w' ⟨rfl, rfl⟩
    exact ⟨⟨_, rfl⟩, [], List.Perm.refl _, List.Pairwise.nil, hO, hS, hf, hbl⟩
  · have hne : b ≠ g := fun e => hbne (by rw [e]; rfl)
    refine (px_sortl w0 w base g cap b L hS hb hO hL hf hbl hne).mono ?_
    rintro e w' ⟨hv, L', hp, hs, ho, hs', hk⟩
    have hp1 := hp.length_eq
    exact ⟨hv, L', hp, hs, ho, hs', hk.cell hf hbl hne, Nat.lt_of_lt_of_le hbl hk.1⟩
end Go.Proofs.Ytckochcocflleaa

/-
  Layer 16: 'pairs', walked, whatever function it hands pairs to.
-/
namespace Go.Proofs.Ytckochcocflleaa
open Go.RowKit Go.Sort
set_option linter.unusedVariables false

/-- Every block of cells stands. -/
def KC (w w' : World) : Prop := w.heap.size ≤ w'.heap.size ∧ ∀ (b : Nat) (cs : Array Value) (t : TypeId) (z : Nat × Nat), w.heap[b]? = some (Obj.cells cs t z) → w'.heap[b]? = some (Obj.cells cs t z)
theorem KC.refl (w : World) : KC w w := ⟨Nat.le_refl _, fun _ _ _ _ h => h⟩
theorem KC.trans {a b c : World} (h : KC a b) (k : KC b c) : KC a c := ⟨Nat.le_trans h.1 k.1, fun x cs t z hx => k.2 x cs t z (h.2 x cs t z hx)⟩
theorem KC.of_since {a b : World} (h : Since a b) : KC a b := ⟨h.below.size, fun x cs t z hx => by
  have hlt : x < a.heap.size := by
    rcases Nat.lt_or_ge x a.heap.size with k | k
    · exact k
    · rw [Array.getElem?_eq_none k] at hx; cases hx
  rw [h.below.block x hlt]; exact hx⟩
theorem KC.drew {a b : World} (h : KC a b) : KC a b.drew := h
theorem KC.alloc {a b : World} (h : KC a b) (o : Obj) : KC a (b.alloc o) := h.trans (KC.of_since ((Since.refl b).alloc o))
theorem KC.cell {a b : World} (h : KC a b) {x o : Nat} {v : Value} (hc : a.cell? ⟨x, o, none⟩ = some v) : b.cell? ⟨x, o, none⟩ = some v := by
  rw [← hc]
  simp only [World.cell?] at hc ⊢
  cases hx : a.heap[x]? with
  | none => rw [hx] at hc; cases hc
  | some ob =>
    rw [hx] at hc
    cases ob with
    | cells cs t z => rw [h.2 x cs t z hx]
    | _ => simp at hc
theorem KC.rd {α : Type} {k : Nat} {enc : α → List Value} {a b : World} (h : KC a b) {A : Option Addr} {L : List α} (hr : RdG k enc a a.heap.size A L) : RdG k enc b b.heap.size A L := fun hn => by
  obtain ⟨x, o, rfl, hb, hc⟩ := hr hn
  exact ⟨x, o, rfl, Nat.lt_of_lt_of_le hb h.1, fun j s hj i hi => h.cell (hc j s hj i hi)⟩
theorem KC.ln {a b : World} (h : KC a b) {x : Nat} {l : Ln} (k : LnAt a x l) : LnAt b x l := ⟨h.cell k.1, h.cell k.2.1, h.cell k.2.2.1, h.cell k.2.2.2.1, Nat.lt_of_lt_of_le k.2.2.2.2 h.1⟩

/-- Is a later line left far enough, and does it overlap in height? -/
def prL (s t : Ln) : Bool := decide (lo2 t.ax t.bx ≤ hi2 s.ax s.bx)
def prY (s t : Ln) : Bool := decide (lo2 s.ay s.bz ≤ hi2 t.ay t.bz) && decide (lo2 t.ay t.bz ≤ hi2 s.ay s.bz)
/-- The pairs of a line with those behind it. -/
def prAt (s : Ln) : List Ln → List (Ln × Ln)
  | [] => []
  | t :: r => if prL s t then (if prY s t then (s, t) :: prAt s r else prAt s r) else []
/-- All pairs that are passed on, from place i on. -/
def prsOf : List Ln → List (Ln × Ln)
  | [] => []
  | s :: r => prAt s r ++ prsOf r
/-- The pairs not yet passed on, seen from the end: what a run from place i passes on. -/
theorem prs_drop {L : List Ln} {i : Nat} {s : Ln} (h : L[i]? = some s) : prsOf (L.drop i) = prAt s (L.drop (i + 1)) ++ prsOf (L.drop (i + 1)) := by
  obtain ⟨hi, rfl⟩ := List.getElem?_eq_some_iff.1 h
  rw [List.drop_eq_getElem_cons hi]; rfl
theorem prAt_drop {R : List Ln} {s : Ln} {j : Nat} {t : Ln} (h : R[j]? = some t) : prAt s (R.drop j) = if prL s t then (if prY s t then (s, t) :: prAt s (R.drop (j + 1)) else prAt s (R.drop (j + 1))) else [] := by
  obtain ⟨hj, rfl⟩ := List.getElem?_eq_some_iff.1 h
  rw [List.drop_eq_getElem_cons hj]; rfl

theorem wrap_j {j m : Nat} (h : j < m) (h2 : m ≤ 4096) : wrap64 ((j : Int) + 1) = (j : Int) + 1 := by unfold wrap64; omega
theorem num_j {j m : Nat} (h : j < m) (h2 : m ≤ 4096) : Value.int IntKind.i64 (wrap64 ((j : Int) + 1)) = Value.int IntKind.i64 ((j + 1 : Nat) : Int) := by rw [wrap_j h h2]; rfl
theorem meas_j {j m : Nat} (h : j < m) (h2 : m ≤ 4096) : m - (intOf (Value.int IntKind.i64 (wrap64 ((j : Int) + 1)))).toNat < m - (intOf (Value.int IntKind.i64 (j : Int))).toNat := by rw [wrap_j h h2]; simp only [intOf]; omega
theorem prAt_len (s : Ln) : ∀ R : List Ln, (prAt s R).length ≤ R.length
  | [] => Nat.le_refl _
  | t :: r => by
    have := prAt_len s r
    unfold prAt
    split
    · split <;> simp only [List.length_cons] <;> omega
    · simp
theorem prs_len : ∀ (L : List Ln) (n : Nat), L.length ≤ n → (prsOf L).length ≤ L.length * n
  | [], _, _ => Nat.zero_le _
  | s :: r, n, h => by
    unfold prsOf
    simp only [List.length_cons] at h
    have h1 := prAt_len s r
    have h2 := prs_len r n (by omega)
    rw [List.length_append, List.length_cons, Nat.succ_mul]
    omega
theorem done_len {d a b : List (Ln × Ln)} {L : List Ln} {n : Nat} (h : d ++ a ++ b = prsOf L) (hn : L.length = n) (h4 : n ≤ 4096) : d.length ≤ 16777216 := by
  have e := congrArg List.length h
  have k := prs_len L 4096 (by omega)
  simp only [List.length_append] at e
  omega
def StepP (F : Nat) (cap : Array Value) (L : List Ln) (I : List (Ln × Ln) → World → Prop) : Prop :=
  ∀ done s t w1, done.length ≤ 16777216 → s ∈ L → t ∈ L → I done w1 → Calls Try.prog F (#[s.v, t.v] ++ cap) w1 fun e w2 => (∃ v, e = .returned v) ∧ I (done ++ [(s, t)]) w2 ∧ KC w1 w2
set_option maxRecDepth 1000000 in
set_option maxHeartbeats 16000000 in
theorem px_pairs (A : Option Addr) (c : Nat) (L : List Ln) (F : Nat) (cap : Array Value) (I : List (Ln × Ln) → World → Prop) (w : World) (hr : RdG 4 lnE w w.heap.size A L) (hL : L.length ≤ 4096) (hE : ∀ args w, (callFunc F args).run Try.prog w = .ok (.enter F args) w) (hI0 : I [] w) (hIs : ∀ d w1 w2, I d w1 → Since w1 w2 → I d w2) (hstep : StepP F cap L I) :
    Calls Try.prog 64 #[.slice A L.length c, .func (.func F) #[] cap] w fun e w' => (∃ v, e = .returned v) ∧ ∃ L', List.Perm L' L ∧ SortedL (Go.Proofs.ltOf cmpL) L' ∧ I (prsOf L') w' ∧ KC w w' := by
  have HR := Lib.hid hr; have HSTEP := Lib.hid hstep; have HIS := Lib.hid hIs
  have hLs : L.length < 4611686018427387904 := by omega
  have hmin := min2_run
  have hmax := max2_run
  clear hr hstep hIs
  obtain ⟨n, hn⟩ : ∃ n, n = L.length := ⟨_, rfl⟩
  have HN := Lib.hid hn
  rw [← hn] at hL ⊢
  clear hn
  go_enter Try.func64, Try.ntmps64
  go_upto_region 3 with (first | (go_at_call 89; have _h := (px_clone A c L _ (HR.out.on ((Since.refl w).alloc (.cells #[.func (.func 88) #[] #[]] 124))) (by rw [← HN.out]; omega)); rw [← HN.out] at _h; (with_reducible refine _h.mono ?_); rintro e w2 ⟨v2, rfl, hO2, hS2⟩; have hf2 : w2.cell? ⟨w.heap.size, 0, none⟩ = some (.func (.func 88) #[] #[]) := (hS2.1 _ _ (by simp)).trans (by rw [World.cell?_alloc_new]; rfl); have hz2 : w.heap.size < w2.heap.size := hS2.2.2.1 _ (by simp); have hne2 : v2.ownBlock ≠ some w.heap.size := (fun e => Nat.not_succ_le_self w.heap.size (by have h := (hO2.lt e).1; simpa using h))) | (go_at_call 90; have _h := px_sortl_any w w2 _ w.heap.size v2 L (((Since.refl w).alloc _).trans hS2) (by simp) hO2 hLs hf2 hz2 hne2; (with_reducible refine _h.mono ?_); rintro e w3 ⟨⟨u3, rfl⟩, L', hp, hs, hO3, hS3, hf3, hb3⟩))
  clear hO2 hS2 hf2 hz2 hne2 _h
  obtain ⟨A3, c3, rfl, hc3, hr3⟩ := hO3.rd (by omega) lnE_len
  have hI3 := HIS.out _ _ _ hI0 hS3
  have hln : L'.length = n := by rw [HN.out]; exact hp.length_eq
  have hmem : ∀ s ∈ L', s ∈ L := fun s h => hp.mem_iff.1 h
  have HLN := Lib.hid hln; have HMEM := Lib.hid hmem; have HP := Lib.hid hp; have HS := Lib.hid hs; have HS3 := Lib.hid hS3
  rw [hln] at hc3 ⊢
  have hc4 : (n : Int) ≤ (c3 : Int) := by omega
  clear hO3 hs hp hln hmem hI0 HR HN hLs _h
  go_wp2_with fail
  go_loopw [20] (fun y wr => ∃ i : Nat, i ≤ n ∧ y = .int .i64 (i : Int) ∧ (∃ d, d ++ prsOf (L'.drop i) = prsOf L' ∧ I d wr) ∧ KC w3 wr) (fun y _ => n - (intOf y).toNat)
  case atStart => exact ⟨0, by omega, rfl, ⟨[], rfl, hI3⟩, KC.refl _⟩
  case round =>
    obtain ⟨i, hi, rfl, ⟨d, hd, hI⟩, hK⟩ := hrel
    by_cases hin : i < n
    · have hin' : (i : Int) < n := by omega
      obtain ⟨b, o, rfl, hb, hcell⟩ := hr3 (by rw [HLN.out]; omega)
      obtain ⟨s, hs⟩ : ∃ s, L'[i]? = some s := ⟨_, List.getElem?_eq_getElem (by rw [HLN.out]; exact hin)⟩
      have s0 := hK.cell (hcell i s hs 0 (by omega))
      have s1 := hK.cell (hcell i s hs 1 (by omega))
      have s2 := hK.cell (hcell i s hs 2 (by omega))
      have s3 := hK.cell (hcell i s hs 3 (by omega))
      simp only [lnE, List.getD_cons_succ, List.getD_cons_zero, Nat.add_zero] at s0 s1 s2 s3
      have hbr : b < wr.heap.size := Nat.lt_of_lt_of_le hb hK.1
      have x6 : (0 : Int) ≤ (i : Int) := by omega
      have HD := Lib.hid hd; have HI := Lib.hid hI; have HCELL := Lib.hid hcell; have HSG := Lib.hid hs
      clear hd hI hcell hs hI3
      go_upto_block 1 with fail
      go_cut [] (fun wx => (∃ d', d' ++ prsOf (L'.drop (i + 1)) = prsOf L' ∧ I d' wx) ∧ KC w3 wx)
      case first =>
        go_upto_region 6 with fail
        refine wp_named fun wa hwa => ?_
        have hLn : LnAt wa wr.heap.size s := by subst hwa; exact ln_new wr _ rfl s _
        have hIa := HIS.out d wr wa HI.out (by subst hwa; exact (Since.refl _).alloc _)
        have hKa : KC w3 wa := by subst hwa; exact hK.alloc _
        clear hwa s0 s1 s2 s3
        obtain ⟨t0, t1, t2, t3, t4⟩ := id hLn
        go_cut [8, 9, 10] (fun x y z wx => x = .int .i64 (hi2 s.ax s.bx) ∧ y = .int .i64 (lo2 s.ay s.bz) ∧ z = .int .i64 (hi2 s.ay s.bz) ∧ wx = wa.drew)
        case first =>
          (refine wp_named fun wr6 hwr6 => ?_; go_region_held3 (fun w' => (∀ b o, b < wr6.heap.size → w'.cell? ⟨b, o, none⟩ = wr6.cell? ⟨b, o, none⟩) ∧ (∀ b o, b < wr6.heap.size → w'.frozen? ⟨b, o, none⟩ = wr6.frozen? ⟨b, o, none⟩) ∧ (∀ k, k < wr6.heap.size → k < w'.heap.size) ∧ Below wr6.heap.size wr6 w') ((subst hwr6; (repeat (with_reducible (refine since_put ?_ ?_ _); rotate_left; focus (first | (simp; done) | (simp; omega) | omega))); first | with_reducible assumption | (refine since_step (by with_reducible assumption) ?_; first | with_reducible assumption | ((repeat (first | with_reducible (exact Since.refl _) | with_reducible assumption | with_reducible (refine Since.drew ?_) | with_reducible (refine Since.drewN ?_ _) | with_reducible (refine Since.alloc ?_ _) | (with_reducible (refine Since.setCell ?_ ?_ _); rotate_left; focus (first | (simp; done) | (simp; omega) | omega)))); done)) | (refine since_step (Since.refl _) ?_; first | with_reducible assumption | ((repeat (first | with_reducible (exact Since.refl _) | with_reducible assumption | with_reducible (refine Since.drew ?_) | with_reducible (refine Since.drewN ?_ _) | with_reducible (refine Since.alloc ?_ _) | (with_reducible (refine Since.setCell ?_ ?_ _); rotate_left; focus (first | (simp; done) | (simp; omega) | omega)) | (with_reducible (refine Since.trans ?_ (by with_reducible assumption))))); done)))) (fail); all_goals (rename_i hHeld; have hR6 : Since wr6 _ := hHeld; obtain ⟨hcR6, hfR6, hzR6, hbR6⟩ := hHeld; subst hwr6))
          all_goals (go_wp2_with fail)
          all_goals go_meet
          all_goals exact ⟨rfl, rfl, rfl, rfl⟩
        obtain ⟨rfl, rfl, rfl, hwc⟩ := hcut
        clear t0 t1 t2 t3 t4
        have hLc : LnAt wc wr.heap.size s := by rw [hwc]; exact hLn
        have hKc : KC w3 wc := by rw [hwc]; exact hKa
        have hIc : I d wc := by rw [hwc]; exact HIS.out d wa _ hIa ((Since.refl _).drew)
        clear hwc hLn hKa hIa HI hK
        have y1 : IntKind.i64.wrap ((i : Int) + 1) = (i : Int) + 1 := IntWalk.i64_in _ (by omega)
        have y2 : (0 : Int) ≤ (i : Int) + 1 := by omega
        have y3 : (i : Int) + 1 ≤ (n : Int) := by omega
        have y4 : ((i : Int) + 1).toNat = i + 1 := by omega
        have hfc := hKc.cell hf3
        have hfz : w.heap.size < wc.heap.size := Nat.lt_of_lt_of_le hb3 hKc.1
        obtain ⟨m, hm⟩ : ∃ m, m = n - (i + 1) := ⟨_, rfl⟩
        have hmR : (L'.drop (i + 1)).length = m := by rw [List.length_drop, HLN.out, hm]
        have HMR := Lib.hid hmR
        have HM4 := Lib.hid (show m ≤ 4096 from by omega)
        clear hmR
        go_upto_region 7 with fail
        go_cut [49, 50, 51] (fun x y z wx => ∃ B c', x = .slice (some ⟨b, B, none⟩) m c' ∧ y = .int .i64 (m : Int) ∧ z = .int .i64 0 ∧ wx = wc ∧ (0 < m → B = o + (i + 1) * 4))
        case first =>
          by_cases hcc : c3 = i + 1
          · go_wp2_with fail
            go_meet
            exact ⟨_, _, by rw [hm], by rw [hm], rfl, rfl, fun h => by omega⟩
          · go_wp2_with fail
            go_meet
            exact ⟨_, _, by rw [hm], by rw [hm], rfl, rfl, fun h => rfl⟩
        obtain ⟨B, c4, rfl, rfl, rfl, rfl, hB⟩ := hcut
        have HB := Lib.hid hB
        clear hB hm
        clear hbr
        generalize wr.heap.size = sb at *
        go_wp2_with fail
        go_loopw [51] (fun y wk => ∃ j : Nat, j ≤ m ∧ y = .int .i64 (j : Int) ∧ (∃ d', d' ++ prAt s ((L'.drop (i + 1)).drop j) ++ prsOf (L'.drop (i + 1)) = prsOf L' ∧ I d' wk) ∧ KC wc wk) (fun y _ => m - (intOf y).toNat)
        case atStart => exact ⟨0, by omega, rfl, ⟨d, by rw [List.drop_zero, List.append_assoc, ← prs_drop HSG.out]; exact HD.out, hIc⟩, KC.refl _⟩
        case round =>
          obtain ⟨j, hj, rfl, ⟨d', hd', hI'⟩, hKk⟩ := hrel
          by_cases hjm : j < m
          · have hjm' : (j : Int) < m := by omega
            have x7 : (0 : Int) ≤ (j : Int) := by omega
            obtain ⟨t, ht⟩ : ∃ t, (L'.drop (i + 1))[j]? = some t := ⟨_, List.getElem?_eq_getElem (by rw [HMR.out]; exact hjm)⟩
            have ht2 := ht
            rw [List.getElem?_drop] at ht2
            have hBv : B = o + (i + 1) * 4 := HB.out (by omega)
            have hKj : KC w3 wr := hKc.trans hKk
            have eB : ∀ k, o + (i + 1 + j) * 4 + k = B + j * 4 + k := fun k => by rw [hBv]; omega
            have t0 := hKj.cell (HCELL.out (i + 1 + j) t ht2 0 (by omega))
            have t1 := hKj.cell (HCELL.out (i + 1 + j) t ht2 1 (by omega))
            have t2 := hKj.cell (HCELL.out (i + 1 + j) t ht2 2 (by omega))
            have t3 := hKj.cell (HCELL.out (i + 1 + j) t ht2 3 (by omega))
            rw [eB] at t0 t1 t2 t3
            simp only [lnE, List.getD_cons_succ, List.getD_cons_zero, Nat.add_zero] at t0 t1 t2 t3
            have hbk : b < wr.heap.size := Nat.lt_of_lt_of_le hb hKj.1
            have hpr := prAt_drop (s := s) ht
            have hsL := HMEM.out s (List.mem_of_getElem? HSG.out)
            have htL := HMEM.out t (List.mem_of_getElem? ht2)
            have hC := HSTEP.out d' s t
            have hdl := done_len hd' HLN.out hL
            have HPR := Lib.hid hpr; have HD' := Lib.hid hd'; have HI' := Lib.hid hI'
            have hLf := fun w => px_left t w
            have hgr := fun (w1 : World) (h : I d' w1) => hC w1 hdl hsL htL h
            unfold Ln.v at hLf hgr
            have HLF := Lib.hid hLf; have HGR := Lib.hid hgr
            clear hpr hd' hI' ht ht2 eB hBv hC hLf hgr hsL htL hdl
            go_upto_region 10 with fail
            refine wp_named fun we hwe => ?_
            have hTe : Since wr we := by subst hwe; exact (Since.refl _).alloc _
            have hTt : LnAt we wr.heap.size t := by subst hwe; exact ln_new wr _ rfl t _
            have hSs : LnAt we sb s := (hKk.ln hLc).since hTe
            have hIe := HIS.out d' wr we HI'.out hTe
            have hKe : KC wc we := hKk.trans (KC.of_since hTe)
            have hfe := hKe.cell hfc
            have hfl : w.heap.size < we.heap.size := Nat.lt_of_lt_of_le hfz hKe.1
            clear hwe t0 t1 t2 t3 hTe hfc hfz
            obtain ⟨t0, t1, t2, t3, t4⟩ := id hTt
            by_cases h1 : hi2 s.ax s.bx < lo2 t.ax t.bx
            · have d1 : decide (hi2 s.ax s.bx < lo2 t.ax t.bx) = true := by simp [h1]
              have e1 : prL s t = false := by unfold prL; simp; omega
              go_wp2_with (go_at_call 88; (with_reducible refine (HLF.out _).mono ?_); rintro e w5 ⟨rfl, hG5⟩; have hS5 := hG5.since)
              go_meet
              refine ⟨⟨d', ?_, HIS.out _ _ _ hIe hS5⟩, (hKc.trans hKe).trans (KC.of_since hS5)⟩
              have hd' := HD'.out
              rw [HPR.out, e1, if_neg (by simp), List.append_nil] at hd'
              exact hd'
            · have d1 : decide (hi2 s.ax s.bx < lo2 t.ax t.bx) = false := by simp; omega
              have e1 : prL s t = true := by unfold prL; simp; omega
              have hd' := HD'.out
              rw [HPR.out, e1, if_pos rfl] at hd'
              clear HPR HD' h1 e1
              by_cases c1 : lo2 s.ay s.bz ≤ hi2 t.ay t.bz
              · have d2 : decide (lo2 s.ay s.bz ≤ hi2 t.ay t.bz) = true := by simp [c1]
                by_cases c2 : lo2 t.ay t.bz ≤ hi2 s.ay s.bz
                · have d3 : decide (lo2 t.ay t.bz ≤ hi2 s.ay s.bz) = true := by simp [c2]
                  have e2 : prY s t = true := by unfold prY; rw [d2, d3]; rfl
                  rw [e2, if_pos rfl] at hd'
                  have HD' := Lib.hid hd'
                  clear hd' c1 c2 e2
                  go_wp2_with (first | (go_at_call 88; (with_reducible refine (HLF.out _).mono ?_); rintro e w5 ⟨rfl, hG5⟩; have hS5 := hG5.since; have hT5 := hTt.since hS5; have hU5 := hSs.since hS5; have hI5 := HIS.out _ _ _ hIe hS5; have hK5 := (hKe.trans (KC.of_since hS5)); clear t0 t1 t2 t3 t4; obtain ⟨t0, t1, t2, t3, t4⟩ := id hT5; obtain ⟨s0, s1, s2, s3, s4⟩ := id hU5) | (refine (Calls.mono (HGR.out _ hI5) ?_); rintro e w6 ⟨⟨v6, rfl⟩, hI6, hK6⟩))
                  go_roundw
                  case rel => exact ⟨j + 1, hjm, num_j hjm HM4.out, ⟨d' ++ [(s, t)], by rw [← HD'.out]; simp, hI6⟩, hK5.trans hK6⟩
                  case measure => exact meas_j hjm HM4.out
                · have d3 : decide (lo2 t.ay t.bz ≤ hi2 s.ay s.bz) = false := by simp; omega
                  have e2 : prY s t = false := by unfold prY; rw [d2, d3]; rfl
                  rw [e2, if_neg (by simp)] at hd'
                  have HD' := Lib.hid hd'
                  clear hd' c1 c2 e2
                  go_wp2_with (go_at_call 88; (with_reducible refine (HLF.out _).mono ?_); rintro e w5 ⟨rfl, hG5⟩; have hS5 := hG5.since; have hT5 := hTt.since hS5; have hU5 := hSs.since hS5; have hI5 := HIS.out _ _ _ hIe hS5; have hK5 := (hKe.trans (KC.of_since hS5)); clear t0 t1 t2 t3 t4; obtain ⟨t0, t1, t2, t3, t4⟩ := id hT5; obtain ⟨s0, s1, s2, s3, s4⟩ := id hU5)
                  go_roundw
                  case rel => exact ⟨j + 1, hjm, num_j hjm HM4.out, ⟨d', HD'.out, hI5⟩, hK5⟩
                  case measure => exact meas_j hjm HM4.out
              · have d2 : decide (lo2 s.ay s.bz ≤ hi2 t.ay t.bz) = false := by simp; omega
                have e2 : prY s t = false := by unfold prY; rw [d2]; rfl
                rw [e2, if_neg (by simp)] at hd'
                have HD' := Lib.hid hd'
                clear hd' c1 e2
                go_wp2_with (go_at_call 88; (with_reducible refine (HLF.out _).mono ?_); rintro e w5 ⟨rfl, hG5⟩; have hS5 := hG5.since; have hT5 := hTt.since hS5; have hU5 := hSs.since hS5; have hI5 := HIS.out _ _ _ hIe hS5; have hK5 := (hKe.trans (KC.of_since hS5)); clear t0 t1 t2 t3 t4; obtain ⟨t0, t1, t2, t3, t4⟩ := id hT5; obtain ⟨s0, s1, s2, s3, s4⟩ := id hU5)
                go_roundw
                case rel => exact ⟨j + 1, hjm, num_j hjm HM4.out, ⟨d', HD'.out, hI5⟩, hK5⟩
                case measure => exact meas_j hjm HM4.out
          · obtain rfl : j = m := by omega
            have hjm' : ¬ (j : Int) < j := by omega
            go_wp2_with fail
            go_meet
            refine ⟨⟨d', ?_, hI'⟩, hKc.trans hKk⟩
            rw [List.drop_eq_nil_of_le (by rw [HMR.out]; omega), prAt, List.append_nil] at hd'
            exact hd'
      obtain ⟨⟨d2, hd2, hI2⟩, hK2⟩ := hcut
      go_wp2_with fail
      go_roundw
      case rel => exact ⟨i + 1, by omega, by first | go_num | exact congrArg (Value.int IntKind.i64) (by omega), ⟨d2, hd2, hI2⟩, hK2⟩
      case measure => simp [intOf]; omega
    · obtain rfl : i = n := by omega
      have hin' : ¬ (i : Int) < i := by omega
      go_wp2_with fail
      go_end0
      refine ⟨⟨_, rfl⟩, L', HP.out, HS.out, ?_, (KC.of_since HS3.out).trans hK⟩
      rw [List.drop_eq_nil_of_le (by rw [HLN.out]; omega), prsOf, List.append_nil] at hd
      rw [← hd]; exact hI
end Go.Proofs.Ytckochcocflleaa

/-
  Layer 15: 'On', walked.
-/
namespace Go.Proofs.Ytckochcocflleaa
open Go.RowKit
set_option linter.unusedVariables false

def onB (px py : Int) (l : Ln) : Bool := (goodB l.ax l.ay && goodB l.bx l.bz && goodB px py) && (turnI l.ax l.ay l.bx l.bz px py == 0) && btw l.ax px l.bx && btw l.ay py l.bz
set_option maxHeartbeats 8000000 in
theorem on_of (px py : Int) (l : Ln) (T E : Int) (e0 t0 b1 b2 : Bool) (w : World) (he : (E == 0) = e0) (ht : (T == 0) = t0) (h1 : btw l.ax px l.bx = b1) (h2 : btw l.ay py l.bz = b2)
    (hT : ∀ w, Calls Try.prog 128 #[Pt l.ax l.ay, Pt l.bx l.bz, Pt px py] w fun e w' => e = .returned (.tuple #[.int .i64 T, .int .i64 E]) ∧ Since w w') :
    Calls Try.prog 105 #[Pt px py, l.v] w fun e w' => e = .returned (.bool (e0 && t0 && b1 && b2)) ∧ Since w w' := by
  have hN := fun w b hb t => ln_new w b hb l t
  have c1 := fun w => cr_between l.ax px l.bx w
  have c2 := fun w => cr_between l.ay py l.bz w
  rw [h1] at c1
  rw [h2] at c2
  unfold Pt Ln.v at *
  have HN := Lib.hid hN
  have HT := Lib.hid hT
  have H1 := Lib.hid c1
  have H2 := Lib.hid c2
  clear hN hT c1 c2 h1 h2
  cases e0 <;> cases t0 <;> cases b1
  all_goals
    go_enter Try.func105, Try.ntmps105
    go_wp2_with (first | (go_at_call 128; (with_reducible refine Calls.mono (HT.out _) ?_); rintro e w1 ⟨rfl, hS1⟩; have hP := ((pt_new w _ rfl px py _).alloc _).since hS1; have hL := (HN.out _ (w.heap.size + 1) (by simp) _).since hS1; have hS : Since w w1 := (by (repeat (first | with_reducible (exact Since.refl _) | with_reducible assumption | with_reducible (refine Since.drew ?_) | with_reducible (refine Since.drewN ?_ _) | with_reducible (refine Since.alloc ?_ _) | (with_reducible (refine Since.setCell ?_ ?_ _); rotate_left; focus (first | (simp; done) | (simp; omega) | omega)) | (with_reducible (refine Since.trans ?_ (by with_reducible assumption)))))); clear hS1; have hPP := hP; obtain ⟨p1, p2, p3⟩ := hPP; have hLL := hL; obtain ⟨l1, l2, l3, l4, l5⟩ := hLL) | (go_at_call 129; (with_reducible refine Calls.mono (H1.out _) ?_); rintro e w2 ⟨rfl, hS2⟩; have hP2 := hP.since hS2; have hL2 := hL.since hS2; have hT2 := hS.trans hS2; clear hS2 hS hP hL p1 p2 p3 l1 l2 l3 l4 l5; obtain ⟨p1, p2, p3⟩ := hP2; obtain ⟨l1, l2, l3, l4, l5⟩ := hL2) | (go_at_call 129; (with_reducible refine Calls.mono (H2.out _) ?_); rintro e w3 ⟨rfl, hS3⟩; have hT3 := hT2.trans hS3))
    go_ret
    exact ⟨by first | rfl | simp, by (repeat (first | with_reducible (exact Since.refl _) | with_reducible assumption | with_reducible (refine Since.drew ?_) | with_reducible (refine Since.drewN ?_ _) | with_reducible (refine Since.alloc ?_ _) | (with_reducible (refine Since.setCell ?_ ?_ _); rotate_left; focus (first | (simp; done) | (simp; omega) | omega)) | (with_reducible (refine Since.trans ?_ (by with_reducible assumption)))))⟩
theorem cr_on (px py : Int) (l : Ln) (h : InP px py) (hl : l.wf) (w : World) :
    Calls Try.prog 105 #[Pt px py, l.v] w fun e w' => e = .returned (.bool (onB px py l)) ∧ Since w w' := by
  have hT := fun w => ga_turn l.ax l.ay l.bx l.bz px py hl.1 hl.2 h w
  unfold onB
  cases hg : (goodB l.ax l.ay && goodB l.bx l.bz && goodB px py) with
  | false =>
    rw [hg] at hT
    exact on_of px py l _ _ false true _ _ w rfl rfl rfl rfl hT
  | true =>
    rw [hg] at hT
    exact on_of px py l _ _ true _ _ _ w rfl rfl rfl rfl hT
end Go.Proofs.Ytckochcocflleaa

/-
  Layer 15: what two lines have in common, in numbers.
-/
namespace Go.Proofs.Ytckochcocflleaa
open Go.RowKit
set_option linter.unusedVariables false

/-- What is in common: Kind, X, Y, D. -/
structure Cp where
  (k x y d : Int)
def Cp.v (p : Cp) : Value := .agg #[.int .i64 p.k, .int .i64 (hiW p.x), .int .u64 (loW p.x), .int .i64 (hiW p.y), .int .u64 (loW p.y), .int .i64 p.d]
def cpNone : Cp := ⟨0, 0, 0, 0⟩
def lnG (l : Ln) : Bool := goodB l.ax l.ay && goodB l.bx l.bz
def cC (s t : Ln) : Int := crossI (s.bx - s.ax) (s.bz - s.ay) (t.bx - t.ax) (t.bz - t.ay)
def nC (s t : Ln) : Int := crossI (t.ax - s.ax) (t.ay - s.ay) (t.bx - t.ax) (t.bz - t.ay)
def mC (s t : Ln) : Int := crossI (t.ax - s.ax) (t.ay - s.ay) (s.bx - s.ax) (s.bz - s.ay)
def in01 (n m c : Int) : Bool := decide (0 ≤ n) && decide (n ≤ c) && decide (0 ≤ m) && decide (m ≤ c)
def crossAt (s : Ln) (n c : Int) : Cp := ⟨1, s.ax * c + (s.bx - s.ax) * n, s.ay * c + (s.bz - s.ay) * n, c⟩
def crossPos (s : Ln) (n m c : Int) : Cp := if in01 n m c then crossAt s n c else cpNone
/-- Lines that aren't parallel. -/
def crossCp (s t : Ln) : Cp := if cC s t < 0 then crossPos s (-nC s t) (-mC s t) (-cC s t) else crossPos s (nC s t) (mC s t) (cC s t)
/-- The ends that lie on both. -/
def ends (s t : Ln) : List (Int × Int) :=
  (if onB s.ax s.ay t then [(s.ax, s.ay)] else []) ++ (if onB s.bx s.bz t then [(s.bx, s.bz)] else []) ++ (if onB t.ax t.ay s then [(t.ax, t.ay)] else []) ++ (if onB t.bx t.bz s then [(t.bx, t.bz)] else [])
def touchOf : List (Int × Int) → Cp
  | [] => cpNone
  | e :: r => if r.all (fun x => x == e) then ⟨1, e.1, e.2, 1⟩ else ⟨2, 0, 0, 0⟩
def aprtL (s t : Ln) : Bool := aprt s.ax s.bx t.ax t.bx || aprt s.ay s.bz t.ay t.bz
def meetG (s t : Ln) : Cp := if aprtL s t then cpNone else if cC s t = 0 then touchOf (ends s t) else crossCp s t
def meetCp (s t : Ln) : Cp := if lnG s && lnG t then meetG s t else cpNone
def meetE (s t : Ln) : Int := if lnG s && lnG t then 0 else 6
def rev (s : Ln) : Ln := ⟨s.bx, s.bz, s.ax, s.ay⟩
def mvL (s : Ln) (x y : Int) : Ln := ⟨s.ax + x, s.ay + y, s.bx + x, s.bz + y⟩

theorem in01_comm (n m c : Int) : in01 n m c = in01 m n c := by
  unfold in01
  cases decide (0 ≤ n) <;> cases decide (n ≤ c) <;> cases decide (0 ≤ m) <;> cases decide (m ≤ c) <;> rfl
theorem in01_back (n m c : Int) : in01 (c - n) m c = in01 n m c := by
  unfold in01
  rw [Bool.eq_iff_iff]
  simp only [Bool.and_eq_true, decide_eq_true_eq]
  omega
theorem cC_swap (s t : Ln) : cC t s = -cC s t := by unfold cC crossI; grind
theorem nC_swap (s t : Ln) : nC t s = -mC s t := by unfold nC mC crossI; grind
theorem mC_swap (s t : Ln) : mC t s = -nC s t := by unfold nC mC crossI; grind
theorem atX_swap (s t : Ln) : t.ax * cC s t + (t.bx - t.ax) * mC s t = s.ax * cC s t + (s.bx - s.ax) * nC s t := by unfold nC mC cC crossI; grind
theorem atY_swap (s t : Ln) : t.ay * cC s t + (t.bz - t.ay) * mC s t = s.ay * cC s t + (s.bz - s.ay) * nC s t := by unfold nC mC cC crossI; grind
theorem crossAt_swap (s t : Ln) : crossAt t (mC s t) (cC s t) = crossAt s (nC s t) (cC s t) := by unfold crossAt; rw [atX_swap, atY_swap]
theorem crossAt_neg (s t : Ln) : crossAt t (-mC s t) (-cC s t) = crossAt s (-nC s t) (-cC s t) := by
  unfold crossAt
  have h1 := atX_swap s t
  have h2 := atY_swap s t
  rw [show t.ax * -cC s t + (t.bx - t.ax) * -mC s t = s.ax * -cC s t + (s.bx - s.ax) * -nC s t by grind, show t.ay * -cC s t + (t.bz - t.ay) * -mC s t = s.ay * -cC s t + (s.bz - s.ay) * -nC s t by grind]
theorem cross_swap (s t : Ln) (h : cC s t ≠ 0) : crossCp t s = crossCp s t := by
  unfold crossCp crossPos
  rw [cC_swap s t, nC_swap s t, mC_swap s t]
  by_cases h0 : cC s t < 0
  · rw [if_neg (by omega), if_pos h0, in01_comm, crossAt_neg]
  · rw [if_pos (by omega), if_neg h0, Int.neg_neg, Int.neg_neg, Int.neg_neg, in01_comm, crossAt_swap]
theorem cC_rev (s t : Ln) : cC (rev s) t = -cC s t := by unfold cC crossI rev; grind
theorem nC_rev (s t : Ln) : nC (rev s) t = nC s t - cC s t := by unfold nC cC crossI rev; grind
theorem mC_rev (s t : Ln) : mC (rev s) t = -mC s t := by unfold mC crossI rev; grind
theorem crossAt_rev (s : Ln) (n c : Int) : crossAt (rev s) (c - n) c = crossAt s n c := by unfold crossAt rev; simp only [Cp.mk.injEq]; grind
theorem cross_rev (s t : Ln) (h : cC s t ≠ 0) : crossCp (rev s) t = crossCp s t := by
  unfold crossCp crossPos
  rw [cC_rev s t, nC_rev s t, mC_rev s t]
  by_cases h0 : cC s t < 0
  · rw [if_neg (by omega), if_pos h0, show nC s t - cC s t = -cC s t - -nC s t by omega, in01_back, crossAt_rev]
  · rw [if_pos (by omega), if_neg h0, show -(nC s t - cC s t) = cC s t - nC s t by omega, Int.neg_neg, Int.neg_neg, in01_back, crossAt_rev]
theorem lo2_comm (a b : Int) : lo2 a b = lo2 b a := by unfold lo2; split <;> split <;> omega
theorem hi2_comm (a b : Int) : hi2 a b = hi2 b a := by unfold hi2; split <;> split <;> omega
theorem btw_comm (a n b : Int) : btw a n b = btw b n a := by unfold btw; rw [lo2_comm, hi2_comm]
theorem aprt_swap (a b c d : Int) : aprt a b c d = aprt c d a b := by unfold aprt; rw [Bool.or_comm]
theorem aprt_rev (a b c d : Int) : aprt a b c d = aprt b a c d := by unfold aprt; rw [lo2_comm a b, hi2_comm a b]
theorem aprtL_swap (s t : Ln) : aprtL t s = aprtL s t := by unfold aprtL; rw [aprt_swap, aprt_swap t.ay]
theorem aprtL_rev (s t : Ln) : aprtL (rev s) t = aprtL s t := by unfold aprtL rev; rw [aprt_rev, aprt_rev s.bz]
theorem lnG_rev (s : Ln) : lnG (rev s) = lnG s := by unfold lnG rev; rw [Bool.and_comm]
theorem sgn_zero (n : Int) : (sgnI n == 0) = decide (n = 0) := by
  unfold sgnI
  by_cases h : n < 0
  · rw [if_pos h]; simp; omega
  · rw [if_neg h]
    by_cases h0 : n = 0 <;> simp [h0]
theorem onB_rev (x y : Int) (s : Ln) : onB x y (rev s) = onB x y s := by
  unfold onB turnI rev
  rw [sgn_zero, sgn_zero, btw_comm, btw_comm s.bz, Bool.and_comm (goodB s.bx s.bz)]
  congr 3
  rw [decide_eq_decide]
  unfold crossI
  constructor <;> intro h <;> grind
theorem mem_ends {s t : Ln} {x : Int × Int} : x ∈ ends s t ↔ (x = (s.ax, s.ay) ∧ onB s.ax s.ay t = true) ∨ (x = (s.bx, s.bz) ∧ onB s.bx s.bz t = true) ∨ (x = (t.ax, t.ay) ∧ onB t.ax t.ay s = true) ∨ (x = (t.bx, t.bz) ∧ onB t.bx t.bz s = true) := by
  unfold ends
  cases onB s.ax s.ay t <;> cases onB s.bx s.bz t <;> cases onB t.ax t.ay s <;> cases onB t.bx t.bz s <;> simp
theorem touch_one {e : Int × Int} {L : List (Int × Int)} (h : e ∈ L) (hall : ∀ x ∈ L, x = e) : touchOf L = ⟨1, e.1, e.2, 1⟩ := by
  cases L with
  | nil => cases h
  | cons a r =>
    obtain rfl := hall a (by simp)
    show (if r.all (fun x => x == a) = true then _ else _) = _
    rw [if_pos (by rw [List.all_eq_true]; intro x hx; rw [hall x (by simp [hx])]; simp)]
theorem touch_two {e f : Int × Int} {L : List (Int × Int)} (h : e ∈ L) (k : f ∈ L) (hne : e ≠ f) : touchOf L = ⟨2, 0, 0, 0⟩ := by
  cases L with
  | nil => cases h
  | cons a r =>
    show (if r.all (fun x => x == a) = true then _ else _) = _
    rw [if_neg]
    intro hh
    rw [List.all_eq_true] at hh
    have hx : ∀ x ∈ a :: r, x = a := fun x hx => by
      rcases List.mem_cons.1 hx with rfl | hx
      · rfl
      · have := hh x hx; simpa using this
    exact hne ((hx e h).trans (hx f k).symm)
theorem touch_same {L L' : List (Int × Int)} (h : ∀ x, x ∈ L ↔ x ∈ L') : touchOf L = touchOf L' := by
  cases L with
  | nil =>
    cases L' with
    | nil => rfl
    | cons a r => have := (h a).2 (by simp); cases this
  | cons a r =>
    have ha := (h a).1 (by simp)
    by_cases hall : ∀ x ∈ a :: r, x = a
    · rw [touch_one (L := a :: r) (by simp) hall, touch_one ha (fun x hx => hall x ((h x).2 hx))]
    · obtain ⟨x, hx⟩ := Classical.not_forall.1 hall
      obtain ⟨hx1, hx2⟩ := Classical.not_imp.1 hx
      rw [touch_two (L := a :: r) hx1 (by simp) hx2, touch_two ((h x).1 hx1) ha hx2]
theorem touch_swap (s t : Ln) : touchOf (ends t s) = touchOf (ends s t) := touch_same fun x => by
  rw [mem_ends, mem_ends]
  constructor
  · rintro (h | h | h | h)
    · exact .inr (.inr (.inl h))
    · exact .inr (.inr (.inr h))
    · exact .inl h
    · exact .inr (.inl h)
  · rintro (h | h | h | h)
    · exact .inr (.inr (.inl h))
    · exact .inr (.inr (.inr h))
    · exact .inl h
    · exact .inr (.inl h)
theorem touch_rev (s t : Ln) : touchOf (ends (rev s) t) = touchOf (ends s t) := touch_same fun x => by
  rw [mem_ends, mem_ends, onB_rev, onB_rev]
  show (x = (s.bx, s.bz) ∧ onB s.bx s.bz t = true) ∨ (x = (s.ax, s.ay) ∧ onB s.ax s.ay t = true) ∨ _ ↔ _
  constructor
  · rintro (h | h | h)
    · exact .inr (.inl h)
    · exact .inl h
    · exact .inr (.inr h)
  · rintro (h | h | h)
    · exact .inr (.inl h)
    · exact .inl h
    · exact .inr (.inr h)
theorem meetG_swap (s t : Ln) : meetG t s = meetG s t := by
  unfold meetG
  rw [aprtL_swap, touch_swap]
  by_cases h : cC s t = 0
  · rw [if_pos h, if_pos (show cC t s = 0 by rw [cC_swap, h]; rfl)]
  · rw [if_neg h, if_neg (show ¬ cC t s = 0 by rw [cC_swap]; omega), cross_swap s t h]
theorem meetG_rev (s t : Ln) : meetG (rev s) t = meetG s t := by
  unfold meetG
  rw [aprtL_rev, touch_rev]
  by_cases h : cC s t = 0
  · rw [if_pos h, if_pos (show cC (rev s) t = 0 by rw [cC_rev, h]; rfl)]
  · rw [if_neg h, if_neg (show ¬ cC (rev s) t = 0 by rw [cC_rev]; omega), cross_rev s t h]
theorem meetCp_swap (s t : Ln) : meetCp t s = meetCp s t := by unfold meetCp; rw [meetG_swap, Bool.and_comm]
theorem meetCp_rev (s t : Ln) : meetCp (rev s) t = meetCp s t := by unfold meetCp; rw [meetG_rev, lnG_rev]
def mvP (p : Cp) (x y : Int) : Cp := ⟨p.k, p.x + x * p.d, p.y + y * p.d, p.d⟩
section
variable (s t : Ln) (x y : Int)
theorem cC_mv : cC (mvL s x y) (mvL t x y) = cC s t := by unfold cC crossI mvL; grind
theorem nC_mv : nC (mvL s x y) (mvL t x y) = nC s t := by unfold nC crossI mvL; grind
theorem mC_mv : mC (mvL s x y) (mvL t x y) = mC s t := by unfold mC crossI mvL; grind
theorem crossAt_mv (n c : Int) : crossAt (mvL s x y) n c = mvP (crossAt s n c) x y := by unfold crossAt mvL mvP; simp only [Cp.mk.injEq]; grind
theorem crossCp_mv : crossCp (mvL s x y) (mvL t x y) = mvP (crossCp s t) x y := by
  unfold crossCp crossPos
  rw [cC_mv, nC_mv, mC_mv, crossAt_mv, crossAt_mv]
  have h0 : mvP cpNone x y = cpNone := by unfold mvP cpNone; simp
  split <;> split <;> first | rfl | exact h0.symm
theorem lo2_mv (a b d : Int) : lo2 (a + d) (b + d) = lo2 a b + d := by unfold lo2; split <;> split <;> omega
theorem hi2_mv (a b d : Int) : hi2 (a + d) (b + d) = hi2 a b + d := by unfold hi2; split <;> split <;> omega
theorem btw_mv (a n b d : Int) : btw (a + d) (n + d) (b + d) = btw a n b := by
  unfold btw
  rw [lo2_mv, hi2_mv]
  congr 1 <;> rw [decide_eq_decide] <;> omega
theorem aprt_mv (a b c d e : Int) : aprt (a + e) (b + e) (c + e) (d + e) = aprt a b c d := by
  unfold aprt
  rw [lo2_mv, lo2_mv, hi2_mv, hi2_mv]
  congr 1 <;> rw [decide_eq_decide] <;> omega
theorem aprtL_mv : aprtL (mvL s x y) (mvL t x y) = aprtL s t := by unfold aprtL mvL; rw [aprt_mv, aprt_mv]
theorem onB_mv (p q : Int) (h1 : lnG s = true) (h2 : lnG (mvL s x y) = true) (h3 : goodB p q = true) (h4 : goodB (p + x) (q + y) = true) : onB (p + x) (q + y) (mvL s x y) = onB p q s := by
  unfold lnG at h1 h2
  unfold onB
  rw [h1, h2, h3, h4]
  unfold mvL turnI
  simp only
  rw [btw_mv, btw_mv]
  congr 4
  unfold crossI
  grind
theorem touchOf_map (L : List (Int × Int)) : touchOf (L.map fun e => (e.1 + x, e.2 + y)) = mvP (touchOf L) x y := by
  have h2 : mvP ⟨2, 0, 0, 0⟩ x y = ⟨2, 0, 0, 0⟩ := by unfold mvP; simp
  cases L with
  | nil => show cpNone = mvP cpNone x y; unfold mvP cpNone; simp
  | cons a r =>
    by_cases hall : ∀ z ∈ a :: r, z = a
    · rw [touch_one (L := a :: r) (by simp) hall, touch_one (e := (a.1 + x, a.2 + y)) (by simp) (fun z hz => by
        obtain ⟨u, hu, rfl⟩ := List.mem_map.1 hz
        rw [hall u hu])]
      unfold mvP
      simp
    · obtain ⟨z, hz⟩ := Classical.not_forall.1 hall
      obtain ⟨hz1, hz2⟩ := Classical.not_imp.1 hz
      rw [touch_two (L := a :: r) hz1 (by simp) hz2, h2]
      refine touch_two (e := (z.1 + x, z.2 + y)) (f := (a.1 + x, a.2 + y)) (List.mem_map.2 ⟨z, hz1, rfl⟩) (List.mem_map.2 ⟨a, by simp, rfl⟩) (fun h => hz2 ?_)
      injection h with e1 e2
      exact Prod.ext (by omega) (by omega)
theorem ends_mv (h1 : lnG s = true) (h2 : lnG (mvL s x y) = true) (h3 : lnG t = true) (h4 : lnG (mvL t x y) = true) : ends (mvL s x y) (mvL t x y) = (ends s t).map fun e => (e.1 + x, e.2 + y) := by
  have a1 := Bool.and_eq_true_iff.1 h1; have a2 := Bool.and_eq_true_iff.1 h2; have a3 := Bool.and_eq_true_iff.1 h3; have a4 := Bool.and_eq_true_iff.1 h4
  have e1 := onB_mv t x y s.ax s.ay h3 h4 a1.1 a2.1
  have e2 := onB_mv t x y s.bx s.bz h3 h4 a1.2 a2.2
  have e3 := onB_mv s x y t.ax t.ay h1 h2 a3.1 a4.1
  have e4 := onB_mv s x y t.bx t.bz h1 h2 a3.2 a4.2
  unfold ends
  rw [show (mvL s x y).ax = s.ax + x from rfl, show (mvL s x y).ay = s.ay + y from rfl, show (mvL s x y).bx = s.bx + x from rfl, show (mvL s x y).bz = s.bz + y from rfl, show (mvL t x y).ax = t.ax + x from rfl, show (mvL t x y).ay = t.ay + y from rfl, show (mvL t x y).bx = t.bx + x from rfl, show (mvL t x y).bz = t.bz + y from rfl, e1, e2, e3, e4]
  cases onB s.ax s.ay t <;> cases onB s.bx s.bz t <;> cases onB t.ax t.ay s <;> cases onB t.bx t.bz s <;> rfl
theorem meetG_mv (h1 : lnG s = true) (h2 : lnG (mvL s x y) = true) (h3 : lnG t = true) (h4 : lnG (mvL t x y) = true) : meetG (mvL s x y) (mvL t x y) = mvP (meetG s t) x y := by
  have h0 : mvP cpNone x y = cpNone := by unfold mvP cpNone; simp
  unfold meetG
  rw [aprtL_mv, cC_mv, ends_mv s t x y h1 h2 h3 h4, touchOf_map, crossCp_mv]
  split
  · exact h0.symm
  · split <;> rfl
end
theorem kind_mv (p : Cp) (x y : Int) : (mvP p x y).k = p.k := rfl
/-- The pixel about n / d. -/
def midI (n d : Int) : Int := (n + 32 * d) / (64 * d)
theorem midI_mv (n d x : Int) (hd : 0 < d) : midI (n + 64 * x * d) d = midI n d + x := by
  unfold midI
  rw [show n + 64 * x * d + 32 * d = n + 32 * d + x * (64 * d) by grind, Int.add_mul_ediv_right _ _ (by omega)]
/-- Kinds. -/
theorem crossPos_k (s : Ln) (n m c : Int) : (in01 n m c = true ∧ crossPos s n m c = crossAt s n c) ∨ (in01 n m c = false ∧ crossPos s n m c = cpNone) := by
  unfold crossPos
  cases h : in01 n m c
  · right; simp
  · left; simp
theorem in01_iff {n m c : Int} : in01 n m c = true ↔ 0 ≤ n ∧ n ≤ c ∧ 0 ≤ m ∧ m ≤ c := by
  unfold in01
  simp only [Bool.and_eq_true, decide_eq_true_eq, and_assoc]
def boxP (p : Cp) (s : Ln) : Prop := lo2 s.ax s.bx * p.d ≤ p.x ∧ p.x ≤ hi2 s.ax s.bx * p.d ∧ lo2 s.ay s.bz * p.d ≤ p.y ∧ p.y ≤ hi2 s.ay s.bz * p.d
theorem conv_in (a b n c : Int) (h0 : 0 ≤ n) (h1 : n ≤ c) : lo2 a b * c ≤ a * c + (b - a) * n ∧ a * c + (b - a) * n ≤ hi2 a b * c := by
  by_cases h : a ≤ b
  · have e1 : lo2 a b = a := by unfold lo2; split <;> omega
    have e2 : hi2 a b = b := by unfold hi2; split <;> omega
    have k1 : 0 ≤ (b - a) * n := Int.mul_nonneg (by omega) h0
    have k2 : 0 ≤ (b - a) * (c - n) := Int.mul_nonneg (by omega) (by omega)
    rw [e1, e2]
    rw [show (b - a) * (c - n) = b * c - (a * c + (b - a) * n) by grind] at k2
    omega
  · have e1 : lo2 a b = b := by unfold lo2; split <;> omega
    have e2 : hi2 a b = a := by unfold hi2; split <;> omega
    have k1 : 0 ≤ (a - b) * n := Int.mul_nonneg (by omega) h0
    have k2 : 0 ≤ (a - b) * (c - n) := Int.mul_nonneg (by omega) (by omega)
    rw [e1, e2]
    rw [show (a - b) * (c - n) = a * c + (b - a) * n - b * c by grind] at k2
    rw [show (a - b) * n = -((b - a) * n) by grind] at k1
    omega
theorem crossAt_in (s : Ln) (n c : Int) (h0 : 0 ≤ n) (h1 : n ≤ c) : boxP (crossAt s n c) s :=
  ⟨(conv_in _ _ _ _ h0 h1).1, (conv_in _ _ _ _ h0 h1).2, (conv_in _ _ _ _ h0 h1).1, (conv_in _ _ _ _ h0 h1).2⟩
theorem cross_in (s t : Ln) (h : cC s t ≠ 0) (hk : (crossCp s t).k = 1) : 0 < (crossCp s t).d ∧ boxP (crossCp s t) s := by
  unfold crossCp at *
  by_cases h0 : cC s t < 0
  · rw [if_pos h0] at *
    rcases crossPos_k s (-nC s t) (-mC s t) (-cC s t) with ⟨hi, e⟩ | ⟨_, e⟩
    · rw [e] at hk ⊢
      have := in01_iff.1 hi
      exact ⟨show 0 < -cC s t by omega, crossAt_in s _ _ (by omega) (by omega)⟩
    · rw [e] at hk; cases hk
  · rw [if_neg h0] at *
    rcases crossPos_k s (nC s t) (mC s t) (cC s t) with ⟨hi, e⟩ | ⟨_, e⟩
    · rw [e] at hk ⊢
      have := in01_iff.1 hi
      exact ⟨show 0 < cC s t by omega, crossAt_in s _ _ (by omega) (by omega)⟩
    · rw [e] at hk; cases hk
theorem btw_iff {a n b : Int} : btw a n b = true ↔ lo2 a b ≤ n ∧ n ≤ hi2 a b := by unfold btw; simp
theorem lo2_le (a b : Int) : lo2 a b ≤ a ∧ lo2 a b ≤ b := by unfold lo2; split <;> omega
theorem hi2_le (a b : Int) : a ≤ hi2 a b ∧ b ≤ hi2 a b := by unfold hi2; split <;> omega
theorem on_btw {x y : Int} {l : Ln} (h : onB x y l = true) : btw l.ax x l.bx = true ∧ btw l.ay y l.bz = true := by
  unfold onB at h
  simp only [Bool.and_eq_true] at h
  exact ⟨h.1.2, h.2⟩
theorem ends_in (s t : Ln) (x : Int × Int) (h : x ∈ ends s t) : (btw s.ax x.1 s.bx = true ∧ btw s.ay x.2 s.bz = true) := by
  rcases mem_ends.1 h with ⟨rfl, _⟩ | ⟨rfl, _⟩ | ⟨rfl, k⟩ | ⟨rfl, k⟩
  · exact ⟨btw_iff.2 ⟨(lo2_le _ _).1, (hi2_le _ _).1⟩, btw_iff.2 ⟨(lo2_le _ _).1, (hi2_le _ _).1⟩⟩
  · exact ⟨btw_iff.2 ⟨(lo2_le _ _).2, (hi2_le _ _).2⟩, btw_iff.2 ⟨(lo2_le _ _).2, (hi2_le _ _).2⟩⟩
  · exact on_btw k
  · exact on_btw k
theorem touch_cases (L : List (Int × Int)) : (L = [] ∧ touchOf L = cpNone) ∨ (∃ e, e ∈ L ∧ touchOf L = ⟨1, e.1, e.2, 1⟩) ∨ touchOf L = ⟨2, 0, 0, 0⟩ := by
  cases L with
  | nil => exact .inl ⟨rfl, rfl⟩
  | cons a r =>
    by_cases hall : ∀ z ∈ a :: r, z = a
    · exact .inr (.inl ⟨a, by simp, touch_one (by simp) hall⟩)
    · obtain ⟨z, hz⟩ := Classical.not_forall.1 hall
      obtain ⟨hz1, hz2⟩ := Classical.not_imp.1 hz
      exact .inr (.inr (touch_two hz1 (by simp) hz2))
theorem meetG_in (s t : Ln) (hk : (meetG s t).k = 1) : 0 < (meetG s t).d ∧ boxP (meetG s t) s := by
  unfold meetG at *
  split
  · rename_i h; rw [if_pos h] at hk; cases hk
  · rename_i h
    rw [if_neg h] at hk
    split
    · rename_i h0
      rw [if_pos h0] at hk
      rcases touch_cases (ends s t) with ⟨_, e⟩ | ⟨x, hx, e⟩ | e
      · rw [e] at hk; cases hk
      · rw [e]
        obtain ⟨b1, b2⟩ := ends_in s t x hx
        have := btw_iff.1 b1; have := btw_iff.1 b2
        refine ⟨Int.one_pos, ?_⟩
        unfold boxP
        simp only [Int.mul_one]
        omega
      · rw [e] at hk; cases hk
    · rename_i h0
      rw [if_neg h0] at hk
      exact cross_in s t h0 hk
theorem meetG_in2 (s t : Ln) (hk : (meetG s t).k = 1) : boxP (meetG s t) t := by
  rw [← meetG_swap] at hk ⊢
  exact (meetG_in t s hk).2
theorem share_in {v n w c : Int} (h : v * n = w * c) (hc : 0 < c) (hv : (0 < v ∧ 0 ≤ w ∧ w ≤ v) ∨ (v < 0 ∧ v ≤ w ∧ w ≤ 0)) : 0 ≤ n ∧ n ≤ c := by
  rcases hv with ⟨hv, hw, hw2⟩ | ⟨hv, hw, hw2⟩
  · have h0 : 0 ≤ v * n := by rw [h]; exact Int.mul_nonneg hw (by omega)
    have h1 : v * n ≤ v * c := by rw [h]; exact Int.mul_le_mul_of_nonneg_right hw2 (by omega)
    exact ⟨Int.le_of_mul_le_mul_left (by rw [Int.mul_zero]; exact h0) hv, Int.le_of_mul_le_mul_left h1 hv⟩
  · have h2 : (-v) * n = (-w) * c := by rw [Int.neg_mul, Int.neg_mul, h]
    have h0 : 0 ≤ (-v) * n := by rw [h2]; exact Int.mul_nonneg (by omega) (by omega)
    have h1 : (-v) * n ≤ (-v) * c := by rw [h2]; exact Int.mul_le_mul_of_nonneg_right (by omega) (by omega)
    exact ⟨Int.le_of_mul_le_mul_left (by rw [Int.mul_zero]; exact h0) (show 0 < -v by omega), Int.le_of_mul_le_mul_left h1 (show 0 < -v by omega)⟩
theorem on_parts {x y : Int} {l : Ln} (h : onB x y l = true) : lnG l = true ∧ goodB x y = true ∧ crossI (l.bx - l.ax) (l.bz - l.ay) (x - l.ax) (y - l.ay) = 0 ∧ btw l.ax x l.bx = true ∧ btw l.ay y l.bz = true := by
  unfold onB turnI at h
  rw [sgn_zero] at h
  simp only [Bool.and_eq_true, decide_eq_true_eq] at h
  obtain ⟨⟨⟨⟨⟨h1, h2⟩, h3⟩, h4⟩, h5⟩, h6⟩ := h
  exact ⟨by unfold lnG; rw [h1, h2]; rfl, h3, h4, h5, h6⟩
theorem aprt_not {a b c d n : Int} (h : lo2 a b ≤ n ∧ n ≤ hi2 a b) (k : lo2 c d ≤ n ∧ n ≤ hi2 c d) : aprt a b c d = false := by
  unfold aprt
  simp only [Bool.or_eq_false_iff, decide_eq_false_iff_not]
  omega
/-- An end on the other line is met. -/
theorem on_met (s t : Ln) (h : onB s.ax s.ay t = true) : 0 < (meetG s t).k := by
  obtain ⟨g1, g2, hc, b1, b2⟩ := on_parts h
  have k1 := btw_iff.1 b1; have k2 := btw_iff.1 b2
  have hap : aprtL s t = false := by
    unfold aprtL
    rw [aprt_not (n := s.ax) ⟨(lo2_le _ _).1, (hi2_le _ _).1⟩ k1, aprt_not (n := s.ay) ⟨(lo2_le _ _).1, (hi2_le _ _).1⟩ k2]; rfl
  unfold meetG
  rw [hap, if_neg (by simp)]
  by_cases h0 : cC s t = 0
  · rw [if_pos h0]
    have hm : (s.ax, s.ay) ∈ ends s t := mem_ends.2 (.inl ⟨rfl, h⟩)
    rcases touch_cases (ends s t) with ⟨e, _⟩ | ⟨x, _, e⟩ | e
    · rw [e] at hm; cases hm
    · rw [e]; exact Int.one_pos
    · rw [e]; decide
  · rw [if_neg h0]
    have hn : nC s t = 0 := by unfold nC; unfold crossI at hc ⊢; grind
    have e1 : (t.bx - t.ax) * mC s t = (s.ax - t.ax) * cC s t := by unfold mC cC; unfold crossI at hc ⊢; grind
    have e2 : (t.bz - t.ay) * mC s t = (s.ay - t.ay) * cC s t := by unfold mC cC; unfold crossI at hc ⊢; grind
    have hu : t.bx - t.ax ≠ 0 ∨ t.bz - t.ay ≠ 0 := by
      by_cases hx : t.bx - t.ax = 0
      · right; intro hy; apply h0; unfold cC crossI; rw [hx, hy]; simp
      · exact .inl hx
    have bx : (0 < t.bx - t.ax ∧ 0 ≤ s.ax - t.ax ∧ s.ax - t.ax ≤ t.bx - t.ax) ∨ (t.bx - t.ax < 0 ∧ t.bx - t.ax ≤ s.ax - t.ax ∧ s.ax - t.ax ≤ 0) ∨ t.bx - t.ax = 0 := by
      unfold lo2 hi2 at k1; split at k1 <;> split at k1 <;> omega
    have by' : (0 < t.bz - t.ay ∧ 0 ≤ s.ay - t.ay ∧ s.ay - t.ay ≤ t.bz - t.ay) ∨ (t.bz - t.ay < 0 ∧ t.bz - t.ay ≤ s.ay - t.ay ∧ s.ay - t.ay ≤ 0) ∨ t.bz - t.ay = 0 := by
      unfold lo2 hi2 at k2; split at k2 <;> split at k2 <;> omega
    unfold crossCp
    by_cases hneg : cC s t < 0
    · rw [if_pos hneg]
      have hm : 0 ≤ -mC s t ∧ -mC s t ≤ -cC s t := by
        rcases hu with hu | hu
        · exact share_in (v := t.bx - t.ax) (w := s.ax - t.ax) (by rw [Int.mul_neg, Int.mul_neg, e1]) (by omega) (by rcases bx with h | h | h; exact .inl h; exact .inr h; exact absurd h hu)
        · exact share_in (v := t.bz - t.ay) (w := s.ay - t.ay) (by rw [Int.mul_neg, Int.mul_neg, e2]) (by omega) (by rcases by' with h | h | h; exact .inl h; exact .inr h; exact absurd h hu)
      rcases crossPos_k s (-nC s t) (-mC s t) (-cC s t) with ⟨_, e⟩ | ⟨hi, _⟩
      · rw [e]; exact Int.one_pos
      · rw [show in01 (-nC s t) (-mC s t) (-cC s t) = true from in01_iff.2 (by omega)] at hi; cases hi
    · rw [if_neg hneg]
      have hm : 0 ≤ mC s t ∧ mC s t ≤ cC s t := by
        rcases hu with hu | hu
        · exact share_in (v := t.bx - t.ax) (w := s.ax - t.ax) e1 (by omega) (by rcases bx with h | h | h; exact .inl h; exact .inr h; exact absurd h hu)
        · exact share_in (v := t.bz - t.ay) (w := s.ay - t.ay) e2 (by omega) (by rcases by' with h | h | h; exact .inl h; exact .inr h; exact absurd h hu)
      rcases crossPos_k s (nC s t) (mC s t) (cC s t) with ⟨_, e⟩ | ⟨hi, _⟩
      · rw [e]; exact Int.one_pos
      · rw [show in01 (nC s t) (mC s t) (cC s t) = true from in01_iff.2 (by omega)] at hi; cases hi
theorem on_met' (s t : Ln) (h : (onB s.ax s.ay t || onB s.bx s.bz t || onB t.ax t.ay s || onB t.bx t.bz s) = true) : 0 < (meetG s t).k := by
  simp only [Bool.or_eq_true] at h
  rcases h with ((h | h) | h) | h
  · exact on_met s t h
  · rw [← meetG_rev]; exact on_met (rev s) t h
  · rw [← meetG_swap]; exact on_met t s h
  · rw [← meetG_swap, ← meetG_rev]; exact on_met (rev t) s h
theorem on_start (s : Ln) (h : lnG s = true) : onB s.ax s.ay s = true := by
  unfold lnG at h
  unfold onB turnI
  rw [h, (Bool.and_eq_true_iff.1 h).1, sgn_zero, btw_iff.2 ⟨(lo2_le _ _).1, (hi2_le _ _).1⟩, btw_iff.2 ⟨(lo2_le _ _).1, (hi2_le _ _).1⟩]
  unfold crossI
  simp
/-- Lines with a common end have a point in common. -/
theorem end_met (s : Ln) (x y : Int) (h : lnG s = true) : 0 < (meetG s ⟨s.bx, s.bz, x, y⟩).k := by
  refine on_met' _ _ ?_
  have := on_start (rev s) (by rw [lnG_rev]; exact h)
  rw [onB_rev] at this
  simp only [Bool.or_eq_true]
  exact .inl (.inr this)
end Go.Proofs.Ytckochcocflleaa
