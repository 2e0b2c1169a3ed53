/-
  Layer 16: the library's sort at own rows of points and of lines.
-/
import Derived.Test.YtcfghkphkmoikaaGreatPxJ
import Derived.Test.YtcfghkphkmoikaaGreatKitBut
import Derived.Test.YtcfghkphkmoikaaGreatSh
namespace Go.Proofs.YtcfghkphkmoikaaGreat
set_option maxRecDepth 100000
open Go.RowKit Go.Sort
set_option linter.unusedVariables false

section
variable {α : Type} [Inhabited α] {k : Nat} {enc : α → List Value}
theorem flat_cells (hk0 : 0 < k) (hk : ∀ a, (enc a).length = k) (L : List α) (j : Nat) (hj : j < L.length * k) : (cellsG enc L)[j]? = some (flatK enc k L.toArray)[j]! := by
  rw [get_flatK enc k L.toArray j (by simpa using hj)]
  have hjk : j / k < L.length := by rw [Nat.div_lt_iff_lt_mul hk0]; exact hj
  have hm := Nat.mod_lt j hk0
  have h := cellsG_get hk L (j / k) _ (List.getElem?_eq_getElem hjk) (j % k) hm
  rw [Nat.div_add_mod' j k] at h
  rw [h]
  have e : L.toArray[j / k]! = L[j / k] := by rw [getElem!_pos L.toArray (j / k) (by simpa using hjk)]; simp
  rw [e, List.getElem?_eq_getElem (by rw [hk]; exact hm), getElem!_pos _ _ (by rw [hk]; exact hm)]
theorem own_holds (hk0 : 0 < k) (hk : ∀ a, (enc a).length = k) {t : TypeId} {base g n cap : Nat} {w : World} {L : List α} (h : OwnG t k enc w base (.slice (some ⟨g, 0, none⟩) n cap) L) : HoldsK enc k w g 0 L.toArray ∧ g < w.heap.size ∧ base ≤ g ∧ n = L.length := by
  obtain ⟨hl, h2⟩ := h
  rcases h2 with ⟨h0, _⟩ | ⟨g', cap', cur, e, hb, hh, _, _, hcs, ht⟩
  · cases h0
  · injection e with e1 e2 e3
    injection e1 with e1
    injection e1 with e1 _
    subst e1 e2 e3
    have hlt : g < w.heap.size := by
      rcases Nat.lt_or_ge g w.heap.size with h | h
      · exact h
      · rw [Array.getElem?_eq_none h] at hh; cases hh
    refine ⟨fun j hj => ?_, hlt, hb, rfl⟩
    have hj' : j < L.length * k := by simpa using hj
    have hf := flat_cells hk0 hk L j hj'
    rw [← ht, List.getElem?_take, if_pos hj'] at hf
    refine ⟨?_, ?_⟩
    · simp only [World.cell?, hh, Nat.zero_add]
      simpa using hf
    · simp [World.frozen?, hh]
theorem sort_heap (w : World) (g m : Nat) (d : Array α) (os : Array Obj) (hg : g < w.heap.size) (b : Nat) (hb : b < w.heap.size) (hne : b ≠ g) : (Go.Proofs.sortWorldK enc k w g 0 m d os).heap[b]? = w.heap[b]? := by
  unfold Go.Proofs.sortWorldK
  rw [heap_grow_old _ _ (by unfold putRowK putRow mapBlock Go.Sort.ahead; simpa using hb)]
  unfold putRowK putRow mapBlock Go.Sort.ahead
  simp only [Array.getElem?_modify]
  rw [if_neg (fun e => hne e.symm)]
theorem sort_size (w : World) (g m : Nat) (d : Array α) (os : Array Obj) : w.heap.size ≤ (Go.Proofs.sortWorldK enc k w g 0 m d os).heap.size := by
  unfold Go.Proofs.sortWorldK
  rw [size_grow]
  unfold putRowK putRow mapBlock Go.Sort.ahead
  simp
theorem sort_own (hk0 : 0 < k) (hk : ∀ a, (enc a).length = k) {t : TypeId} {base g n cap : Nat} {w : World} {L : List α} (h : OwnG t k enc w base (.slice (some ⟨g, 0, none⟩) n cap) L) (m : Nat) (d : Array α) (os : Array Obj) (hd : d.size = L.length) :
    OwnG t k enc (Go.Proofs.sortWorldK enc k w g 0 m d os) base (.slice (some ⟨g, 0, none⟩) n cap) d.toList := by
  obtain ⟨_, hlt, _, hn⟩ := own_holds hk0 hk h
  obtain ⟨hl, h2⟩ := h
  rcases h2 with ⟨h0, _⟩ | ⟨g', cap', cur, e, hb, hh, hnc, hcm, hcs, ht⟩
  · cases h0
  · injection e with e1 e2 e3
    injection e1 with e1
    injection e1 with e1 _
    subst e1 e2 e3
    have hdl : d.toList.length = L.length := by simpa using hd
    refine ⟨by rw [cellsG_len hk], .inr ⟨g, cap, putCells id 0 (flatK enc k d) cur, by rw [hdl], hb, ?_, by rw [hdl]; exact hnc, hcm, ?_, ?_⟩⟩
    · unfold Go.Proofs.sortWorldK
      rw [heap_grow_old _ _ (by unfold putRowK putRow mapBlock Go.Sort.ahead; simpa using hlt)]
      unfold putRowK putRow mapBlock Go.Sort.ahead
      simp only [Array.getElem?_modify, if_true]
      rw [hh]
      rfl
    · unfold putCells
      rw [Array.size_mapIdx]; exact hcs
    · apply List.ext_getElem?
      intro j
      rw [List.getElem?_take, hdl]
      by_cases hj : j < L.length * k
      · rw [if_pos hj]
        have hf := flat_cells hk0 hk d.toList j (by rw [hdl]; exact hj)
        rw [hf]
        have hcur : j < cur.size := by
          have : L.length * k ≤ cap * k := Nat.mul_le_mul_right _ hnc
          omega
        unfold putCells
        rw [Array.getElem?_toList, Array.getElem?_mapIdx, Array.getElem?_eq_getElem hcur]
        simp [hd, hj]
      · rw [if_neg hj, List.getElem?_eq_none (by rw [cellsG_len hk, hdl]; omega)]
theorem sort_since {w0 w : World} (hS : Since w0 w) {g : Nat} (hg : w0.heap.size ≤ g) (hlt : g < w.heap.size) (m : Nat) (d : Array α) (os : Array Obj) : Since w0 (Go.Proofs.sortWorldK enc k w g 0 m d os) :=
  since_of ⟨hS.below.os, hS.below.tape, hS.below.output, Nat.le_trans hS.below.size (sort_size w g m d os), fun b hb => (sort_heap w g m d os hlt b (Nat.lt_of_lt_of_le hb hS.below.size) (by omega)).trans (hS.below.block b hb)⟩
theorem sort_but {w : World} {g : Nat} (hlt : g < w.heap.size) (m : Nat) (d : Array α) (os : Array Obj) : KeepBut g w (Go.Proofs.sortWorldK enc k w g 0 m d os) :=
  ⟨sort_size w g m d os, fun b hb hne => sort_heap w g m d os hlt b hb hne⟩
end
theorem perm_of {α : Type} [Inhabited α] {d d' : Array α} (h : PermIn 0 d.size d d') : d'.toList.Perm d.toList ∧ d'.size = d.size := by
  obtain ⟨h1, _, h3⟩ := h
  refine ⟨?_, h1⟩
  have e1 : (d'.extract 0 d.size) = d' := by rw [← h1]; simp
  have e2 : (d.extract 0 d.size) = d := by simp
  rw [e1, e2] at h3
  exact h3
theorem cmp_lt {a b : Int} : cmpI a b < 0 ↔ a < b := by
  rcases cmp_is a b with ⟨e, k⟩ | ⟨e, k⟩ | ⟨e, k⟩ <;> omega
theorem cmpP_lt (p q : Pq) : Go.Proofs.ltOf cmpP p q = decide (p.x < q.x ∨ (p.x = q.x ∧ p.y < q.y)) := by
  unfold Go.Proofs.ltOf cmpP orI
  rw [Bool.eq_iff_iff]
  simp only [decide_eq_true_eq]
  rcases cmp_is p.x q.x with ⟨e, k⟩ | ⟨e, k⟩ | ⟨e, k⟩ <;> rcases cmp_is p.y q.y with ⟨e', k'⟩ | ⟨e', k'⟩ | ⟨e', k'⟩ <;> rw [e, e'] <;> simp <;> omega
theorem swo_pt : SWO (Go.Proofs.ltOf cmpP) where
  irrefl x := by rw [cmpP_lt]; simp
  trans x y z h1 h2 := by rw [cmpP_lt] at *; simp at *; omega
  ntrans x y z h1 h2 := by rw [cmpP_lt] at *; simp at *; omega
def cmpL (s t : Ln) : Int := cmpI (lo2 s.ax s.bx) (lo2 t.ax t.bx)
theorem cmpL_lt (s t : Ln) : Go.Proofs.ltOf cmpL s t = decide (lo2 s.ax s.bx < lo2 t.ax t.bx) := by
  unfold Go.Proofs.ltOf cmpL
  rw [Bool.eq_iff_iff]
  simp only [decide_eq_true_eq]
  exact cmp_lt
theorem swo_ln : SWO (Go.Proofs.ltOf cmpL) where
  irrefl x := by rw [cmpL_lt]; simp
  trans x y z h1 h2 := by rw [cmpL_lt] at *; simp at *; omega
  ntrans x y z h1 h2 := by rw [cmpL_lt] at *; simp at *; omega
instance : Inhabited Pq := ⟨⟨0, 0⟩⟩
instance : Inhabited Ln := ⟨⟨0, 0, 0, 0⟩⟩
def lnE (l : Ln) : List Value := [.int .i64 l.ax, .int .i64 l.ay, .int .i64 l.bx, .int .i64 l.bz]
theorem lnE_len (l : Ln) : (lnE l).length = 4 := rfl
theorem lnE_one (l : Ln) : ∀ u ∈ lnE l, u.oneCell' = true := by
  intro u hu
  simp only [lnE, List.mem_cons, List.not_mem_nil, or_false] at hu
  rcases hu with rfl | rfl | rfl | rfl <;> rfl
/-- Sorted as the sort leaves it: no later one is less than an earlier one. -/
def SortedL {α : Type} (lt : α → α → Bool) (L : List α) : Prop := L.Pairwise fun x y => lt y x = false
theorem sorted_of {α : Type} [Inhabited α] {lt : α → α → Bool} {d : Array α} {n : Nat} (hn : d.size = n) (h : SortedIn lt 0 n d) : SortedL lt d.toList := by
  unfold SortedL
  rw [List.pairwise_iff_getElem]
  intro i j hi hj hij
  have := h i j (Nat.zero_le _) hij (by rw [← hn]; simpa using hj)
  rw [getElem!_pos d i (by simpa using hi), getElem!_pos d j (by simpa using hj)] at this
  simpa using this
theorem px_sortp (w0 w : World) (base g cap : Nat) (L : List Pq) (hS : Since w0 w) (hb : w0.heap.size ≤ base) (hO : OwnG 23 2 ptL w base (.slice (some ⟨g, 0, none⟩) L.length cap) L) (hL : L.length < 4611686018427387904) :
    Calls Tryz.prog 57 #[.slice (some ⟨g, 0, none⟩) L.length cap, .func (.func 66) #[] #[]] w fun e w' => (∃ v, e = .returned v) ∧ ∃ L', List.Perm L' L ∧ SortedL (Go.Proofs.ltOf cmpP) L' ∧ OwnG 23 2 ptL w' base (.slice (some ⟨g, 0, none⟩) L.length cap) L' ∧ Since w0 w' ∧ KeepBut g w w' := by
  obtain ⟨hH, hlt, hbg, _⟩ := own_holds (by omega) ptL_len hO
  have hc : Go.Proofs.CmpLays Tryz.prog 66 #[] ptL 2 cmpP g 0 L.toArray.size w := fun m os dk _ x y => by
    refine (px_bypt x y _).mono ?_
    rintro e w' ⟨rfl, q, os', h⟩
    exact ⟨rfl, q, os', h⟩
  have h := Go.Proofs.AnyQ.slices_SortFunc sortPt 2 Tryz.isAgg23 Tryz.sizeOf23 ptL ptL_len ptL_one cmpP swo_pt 66 #[] g 0 cap L.toArray w (Go.Proofs.enters_of Tryz.func66 (by kernel_rfl) rfl) hc hH hlt (by simpa using hL)
  change Calls Tryz.prog 57 _ _ _ at h
  rw [List.size_toArray] at h
  refine h.mono ?_
  rintro e w' ⟨rfl, d', n, os, hp, hs, rfl⟩
  have hp2 := perm_of (d := L.toArray) (d' := d') (by simpa using hp)
  exact ⟨⟨_, rfl⟩, d'.toList, by simpa using hp2.1, sorted_of (by simpa using hp2.2) hs, sort_own (by omega) ptL_len hO n d' os (by simpa using hp2.2), sort_since hS (by omega) hlt n d' os, sort_but hlt n d' os⟩
theorem px_sortl (w0 w : World) (base g cap b : Nat) (L : List Ln) (hS : Since w0 w) (hb : w0.heap.size ≤ base) (hO : OwnG 25 4 lnE w base (.slice (some ⟨g, 0, none⟩) L.length cap) L) (hL : L.length < 4611686018427387904)
    (hf : w.cell? ⟨b, 0, none⟩ = some (.func (.func 91) #[] #[])) (hbl : b < w.heap.size) (hbne : b ≠ g) :
    Calls Tryz.prog 93 #[.slice (some ⟨g, 0, none⟩) L.length cap, .func (.func 94) #[] #[.pointer (some ⟨b, 0, none⟩)]] w fun e w' => (∃ v, e = .returned v) ∧ ∃ L', List.Perm L' L ∧ SortedL (Go.Proofs.ltOf cmpL) L' ∧ OwnG 25 4 lnE w' base (.slice (some ⟨g, 0, none⟩) L.length cap) L' ∧ Since w0 w' ∧ KeepBut g w w' := by
  obtain ⟨hH, hlt, hbg, _⟩ := own_holds (by omega) lnE_len hO
  have hc : Go.Proofs.CmpLays Tryz.prog 94 #[.pointer (some ⟨b, 0, none⟩)] lnE 4 cmpL g 0 L.toArray.size w := fun m os dk _ x y => by
    refine (px_bylow x y b _ ?_ ?_).mono ?_
    · have e := sort_heap (enc := lnE) (k := 4) w g m dk os hlt b hbl hbne
      rw [← hf]; simp only [World.cell?, e]
    · exact Nat.lt_of_lt_of_le hbl (sort_size w g m dk os)
    · rintro e w' ⟨rfl, q, os', h⟩
      exact ⟨rfl, q, os', h⟩
  have h := Go.Proofs.AnyQ.slices_SortFunc sortLn 4 Tryz.isAgg25 Tryz.sizeOf25 lnE lnE_len lnE_one cmpL swo_ln 94 #[.pointer (some ⟨b, 0, none⟩)] g 0 cap L.toArray w (Go.Proofs.enters_of Tryz.func94 (by kernel_rfl) rfl) hc hH hlt (by simpa using hL)
  change Calls Tryz.prog 93 _ _ _ at h
  rw [List.size_toArray] at h
  refine h.mono ?_
  rintro e w' ⟨rfl, d', n, os, hp, hs, rfl⟩
  have hp2 := perm_of (d := L.toArray) (d' := d') (by simpa using hp)
  exact ⟨⟨_, rfl⟩, d'.toList, by simpa using hp2.1, sorted_of (by simpa using hp2.2) hs, sort_own (by omega) lnE_len hO n d' os (by simpa using hp2.2), sort_since hS (by omega) hlt n d' os, sort_but hlt n d' os⟩
end Go.Proofs.YtcfghkphkmoikaaGreat
