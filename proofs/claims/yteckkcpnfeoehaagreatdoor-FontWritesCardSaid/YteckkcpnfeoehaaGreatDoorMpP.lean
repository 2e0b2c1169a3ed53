/-
  Texts of this seat, put together: each with its own head.
-/
import Derived.Test.YteckkcpnfeoehaaGreatDoorFnJ
import Derived.Lib.SliceRun

/-
  Layer 9: the library's DeleteFunc at tables.
-/
namespace Go.Proofs.YteckkcpnfeoehaaGreatDoor
set_option maxRecDepth 100000
open Go.RowKit Go.ChangeShapes Go.WideShapes Go.Deep
set_option linter.unusedVariables false
set_option linter.unusedSimpArgs false

theorem run_clear_k {P : Program} (w : World) (t e ty : TypeId) (z : Value) (k : Nat) (ht : P.underlying t = some (.slice e)) (hv : ∀ w, (zeroValue e).run P w = .ok z w) (hz : z.cells.size = k) (h1 : ∀ v ∈ z.cells, v.oneCell' = true) (b o n c : Nat) (hn : 0 < n) (hk : 0 < k)
    (hc : ∀ j, j < n * k → (w.cell? ⟨b, o + j, none⟩).isSome = true) (hf : ∀ j, j < n * k → w.frozen? ⟨b, o + j, none⟩ = false) :
    (Builtin.clear_ #[t] ty #[.slice (some ⟨b, o, none⟩) n c]).run P w = .ok (.tuple #[]) (w.setCells b o (Builtin.zeroCells z.cells n).toList) := by
  have hl : (Builtin.zeroCells z.cells n).toList.length = n * k := by simp [Builtin.zeroCells, hz]
  have hst := run_storeCells_cells (P := P) b o (Builtin.zeroCells z.cells n).toList 0 w (fun j hj => by rw [Nat.add_zero]; exact hc j (by omega)) (fun j hj => by rw [Nat.add_zero]; exact hf j (by omega)) (by
    intro v hv'
    rw [Array.mem_toList_iff] at hv'
    simp only [Builtin.zeroCells, Array.mem_map] at hv'
    obtain ⟨i, _, rfl⟩ := hv'
    have hi : i % z.cells.size < z.cells.size := Nat.mod_lt _ (by omega)
    rw [getElem!_pos z.cells _ hi]
    exact h1 _ (Array.getElem_mem hi))
  simp only [Nat.add_zero] at hst
  obtain ⟨m, rfl⟩ : ∃ m, n = m + 1 := ⟨n - 1, by omega⟩
  simp [Builtin.clear_, run_underlying ht, hv, hst]
def keepH (h : Th) : Bool := !isGen ⟨h.tag, []⟩
theorem infoTbz : ∀ w, (zeroValue 49).run Tryz.prog w = .ok (.agg #[.string ByteArray.empty, .slice none 0 0]) w := fun w => by
  obtain ⟨i0, hi, hz0, _, _⟩ := info_parts infoTb0
  simp [zeroValue, typeInfo, hi, hz0]
theorem filt_rows {hs : List Th} {TT : List Tb} (hl : hs.length = TT.length) {Q : Th → Tb → Prop} (hK : ∀ (j : Nat) h T, hs[j]? = some h → TT[j]? = some T → h.tag = T.tag ∧ Q h T) :
    (hs.filter keepH).length = (TT.filter (fun T => !isGen T)).length ∧ ∀ (j : Nat) h T, (hs.filter keepH)[j]? = some h → (TT.filter (fun T => !isGen T))[j]? = some T → h.tag = T.tag ∧ Q h T := by
  induction hs generalizing TT with
  | nil =>
    have : TT = [] := List.length_eq_zero_iff.1 hl.symm
    subst this
    exact ⟨rfl, fun j h T h1 => by simp at h1⟩
  | cons h r ih =>
    cases TT with
    | nil => simp at hl
    | cons T s =>
      obtain ⟨i1, i2⟩ := ih (TT := s) (by simpa using hl) (fun j x U h1 h2 => hK (j + 1) x U (by simpa using h1) (by simpa using h2))
      have h0 := hK 0 h T rfl rfl
      have e : keepH h = !isGen T := by unfold keepH; rw [h0.1]; rfl
      rw [List.filter_cons, List.filter_cons, e]
      cases hg : isGen T
      · simp only [Bool.not_false, if_true, List.length_cons]
        refine ⟨by rw [i1], fun j x U h1 h2 => ?_⟩
        cases j with
        | zero =>
          simp only [List.getElem?_cons_zero, Option.some.injEq] at h1 h2
          subst h1 h2
          exact h0
        | succ j => exact i2 j x U (by simpa using h1) (by simpa using h2)
      · simp only [Bool.not_true, Bool.false_eq_true, if_false]
        exact ⟨i1, i2⟩
/-- The headers behind j steps: those that were kept, then what stands. -/
def hsJ (hs : List Th) (j : Nat) : List Th := (hs.take j).filter keepH ++ hs.drop ((hs.take j).filter keepH).length
theorem kept_le (hs : List Th) (j : Nat) : ((hs.take j).filter keepH).length ≤ j := Nat.le_trans (List.length_filter_le _ _) (by rw [List.length_take]; omega)
theorem kept_len (hs : List Th) (j : Nat) : ((hs.take j).filter keepH).length ≤ hs.length := Nat.le_trans (List.length_filter_le _ _) (by rw [List.length_take]; omega)
theorem hsJ_len (hs : List Th) (j : Nat) : (hsJ hs j).length = hs.length := by
  have := kept_len hs j
  unfold hsJ
  rw [List.length_append, List.length_drop]; omega
theorem hsJ_at {hs : List Th} {j : Nat} {h : Th} (hj : hs[j]? = some h) : (hsJ hs j)[j]? = some h := by
  have := kept_le hs j
  unfold hsJ
  rw [List.getElem?_append_right (by omega), List.getElem?_drop, ← hj]
  congr 1; omega
theorem hsJ_keep {hs : List Th} {j : Nat} {h : Th} (hj : hs[j]? = some h) (hk : keepH h = true) : (hsJ hs j).set ((hs.take j).filter keepH).length h = hsJ hs (j + 1) ∧ ((hs.take (j + 1)).filter keepH).length = ((hs.take j).filter keepH).length + 1 := by
  have hl : j < hs.length := by
    rcases Nat.lt_or_ge j hs.length with h | h
    · exact h
    · rw [List.getElem?_eq_none h] at hj; cases hj
  have e : hs[j] = h := by rw [List.getElem?_eq_getElem hl] at hj; exact Option.some.inj hj
  have e1 : (hs.take (j + 1)).filter keepH = (hs.take j).filter keepH ++ [h] := by
    rw [List.take_succ_eq_append_getElem hl, List.filter_append, e, List.filter_cons_of_pos (by simpa using hk)]; rfl
  have hle := kept_le hs j
  refine ⟨?_, by rw [e1]; simp⟩
  unfold hsJ
  rw [e1, List.set_append_right _ _ (Nat.le_refl _), Nat.sub_self, List.length_append, List.append_assoc]
  congr 1
  generalize ((hs.take j).filter keepH).length = i at *
  have hil : i < hs.length := by omega
  rw [List.drop_eq_getElem_cons hil]
  rfl
theorem hsJ_drop {hs : List Th} {j : Nat} {h : Th} (hj : hs[j]? = some h) (hk : keepH h = false) : hsJ hs (j + 1) = hsJ hs j ∧ ((hs.take (j + 1)).filter keepH).length = ((hs.take j).filter keepH).length := by
  have hl : j < hs.length := by
    rcases Nat.lt_or_ge j hs.length with h | h
    · exact h
    · rw [List.getElem?_eq_none h] at hj; cases hj
  have e : hs[j] = h := by rw [List.getElem?_eq_getElem hl] at hj; exact Option.some.inj hj
  have e1 : (hs.take (j + 1)).filter keepH = (hs.take j).filter keepH := by
    rw [List.take_succ_eq_append_getElem hl, List.filter_append, e, List.filter_cons_of_neg (by simpa using hk)]; simp
  unfold hsJ
  rw [e1]
  exact ⟨rfl, rfl⟩
theorem hsJ_all (hs : List Th) : hsJ hs hs.length = hs.filter keepH ++ hs.drop (hs.filter keepH).length := by unfold hsJ; rw [List.take_length]
theorem hsJ_start {hs : List Th} {i : Nat} (hi : ∀ h, h ∈ hs.take i → keepH h = true) (hle : i ≤ hs.length) : hsJ hs i = hs ∧ ((hs.take i).filter keepH).length = i := by
  have e : (hs.take i).filter keepH = hs.take i := List.filter_eq_self.2 hi
  have el : (hs.take i).length = i := by rw [List.length_take]; omega
  refine ⟨?_, by rw [e, el]⟩
  unfold hsJ
  rw [e, el, List.take_append_drop]
theorem OwnG.keepR {α : Type} {enc : α → List Value} {t : TypeId} {k base B0 : Nat} {w w' : World} {v : Value} {L : List α} (h : OwnG t k enc w base v L) (hb : ∀ g, v.ownBlock = some g → g < B0) (hk : ∀ b, base ≤ b → b < B0 → w'.heap[b]? = w.heap[b]?) : OwnG t k enc w' base v L := by
  refine ⟨h.1, ?_⟩
  rcases h.2 with h0 | ⟨g, cap, cur, rfl, hg, hh, r⟩
  · exact .inl h0
  · exact .inr ⟨g, cap, cur, rfl, hg, by rw [hk g hg (hb g rfl)]; exact hh, r⟩
/-- Tables that read so wherever the blocks from lo on and below hi are as they are. -/
def RdTS (lo hi : Nat) (w : World) (A : Option Addr) (TT : List Tb) : Prop := ∀ w' : World, (∀ b, lo ≤ b → b < hi → w'.heap[b]? = w.heap[b]?) → RdTL w' hi A TT
theorem RdTS.rd {lo hi : Nat} {w : World} {A : Option Addr} {TT : List Tb} (h : RdTS lo hi w A TT) : RdTL w hi A TT := h w fun _ _ _ => rfl
theorem RdTS.keep {lo hi : Nat} {w w1 : World} {A : Option Addr} {TT : List Tb} (h : RdTS lo hi w A TT) (hk : ∀ b, lo ≤ b → b < hi → w1.heap[b]? = w.heap[b]?) : RdTS lo hi w1 A TT := fun w' h' => h w' fun b h1 h2 => (h' b h1 h2).trans (hk b h1 h2)
theorem RdTS.nigh {lo hi q : Nat} {w w1 : World} {A : Option Addr} {TT : List Tb} (h : RdTS lo hi w A TT) (k : Nigh q w w1) (hq : q < lo ∨ hi ≤ q) (hh : hi ≤ w.heap.size) : RdTS lo hi w1 A TT := h.keep fun b h1 h2 => k.1.2 b (by omega) (by omega)
theorem RdTS.since {lo hi : Nat} {w w1 : World} {A : Option Addr} {TT : List Tb} (h : RdTS lo hi w A TT) (k : Since w w1) (hh : hi ≤ w.heap.size) : RdTS lo hi w1 A TT := h.keep fun b h1 h2 => k.below.block b (by omega)
theorem OwnT.rds {w0 w : World} {base n c : Nat} {A : Option Addr} {TT : List Tb} (h : OwnT w0 base (.slice A n c) TT) (k : Since w0 w) : RdTS base w0.heap.size w A TT := fun w' hk => by
  have hk0 : ∀ b, base ≤ b → b < w0.heap.size → w'.heap[b]? = w0.heap[b]? := fun b h1 h2 => (hk b h1 h2).trans (k.below.block b h2)
  obtain ⟨hs, hl, ho, hK⟩ := h
  obtain ⟨A0, c0, e0, _, hr0⟩ := ho.rd (by omega) thL_len
  injection e0 with e0
  rw [← e0] at hr0
  refine ⟨hs, hl, fun hn => ?_, fun j x T h1 h2 => ?_⟩
  · obtain ⟨b, o, e, hb, hc⟩ := hr0 hn
    refine ⟨b, o, e, hb, fun j s hj i hi => ?_⟩
    rw [← hc j s hj i hi]
    have := hk0 b (ho.lt (g := b) (by rw [e]; rfl)).1 hb
    simp only [World.cell?, this]
  · obtain ⟨e1, hO⟩ := hK j x T h1 h2
    obtain ⟨A', c', e, _, hr⟩ := (hO.rd (by omega) byL_len)
    injection e with e1' e2 e3
    rw [← e1'] at hr
    refine ⟨e1, e2, fun h0 => ?_⟩
    obtain ⟨b, o, ea, hb, hc⟩ := hr h0
    refine ⟨b, o, ea, hb, fun j s hj i hi => ?_⟩
    rw [← hc j s hj i hi]
    have := hk0 b (hO.lt (g := b) (by rw [ea]; rfl)).1 hb
    simp only [World.cell?, this]
def DelP (TT : List Tb) (q base B0 : Nat) (w : World) (e : Ending) (w' : World) : Prop := ∃ A' c', e = .returned (.slice A' (TT.filter (fun T => !isGen T)).length c') ∧ RdTS base B0 w' A' (TT.filter (fun T => !isGen T)) ∧ Nigh q w w'
theorem genH (h : Th) (v : Value) (w : World) : Calls Tryz.prog 35 #[.agg #[.string h.tag, v]] w fun e w' => e = .returned (.bool (!keepH h)) ∧ Since w w' := by
  have := cl_gen ⟨h.tag, []⟩ v w
  unfold keepH
  rw [Bool.not_not]
  exact this
theorem th_cells {w : World} {base q n c : Nat} {hs : List Th} (h : OwnG 49 2 thL w base (.slice (some ⟨q, 0, none⟩) n c) hs) {j : Nat} {x : Th} (hj : hs[j]? = some x) : w.cell? ⟨q, j * 2, none⟩ = some (.string x.tag) ∧ w.cell? ⟨q, j * 2 + 1, none⟩ = some (.slice x.A x.n x.c) := by
  have hl : j < hs.length := by
    rcases Nat.lt_or_ge j hs.length with h | h
    · exact h
    · rw [List.getElem?_eq_none h] at hj; cases hj
  obtain ⟨A, c', e, _, hr⟩ := OwnG.rd (by omega) thL_len h
  injection e with e1
  obtain ⟨b, o, e2, _, hc⟩ := hr (by omega)
  rw [← e1] at e2
  injection e2 with e2
  injection e2 with e2 e3
  subst e2
  have h0 := hc j x hj 0 (by omega)
  have h1 := hc j x hj 1 (by omega)
  rw [← e3, Nat.zero_add] at h0 h1
  rw [Nat.add_zero] at h0
  exact ⟨h0, h1⟩
/-- What is left of an own row of tables, read. -/
theorem del_read {w w' : World} {base q n c i B0 : Nat} (hq0 : q < B0) {hs : List Th} {TT : List Tb} (h : OwnG 49 2 thL w base (.slice (some ⟨q, 0, none⟩) n c) hs) (hi : i ≤ hs.length) (hl : i = TT.length) (hN : Nigh q w w') (hcell : ∀ o, o < i * 2 → w'.cell? ⟨q, o, none⟩ = w.cell? ⟨q, o, none⟩)
    (hK : ∀ (j : Nat) x T, (hs.take i)[j]? = some x → TT[j]? = some T → x.tag = T.tag ∧ OwnB w' base (.slice x.A x.n x.c) T.data ∧ ∀ g, (Value.slice x.A x.n x.c).ownBlock = some g → g < B0) : RdTS base B0 w' (some ⟨q, 0, none⟩) TT := fun w2 hk2 => by
  have hlt := h.lt (g := q) rfl
  have hq2 := hk2 q hlt.1 hq0
  refine ⟨hs.take i, by rw [List.length_take]; omega, fun hn => ⟨q, 0, rfl, hq0, fun j s hj t ht => ?_⟩, fun j x T h1 h2 => ?_⟩
  · have hji : j < i := by
      rcases Nat.lt_or_ge j i with h | h
      · exact h
      · rw [List.getElem?_eq_none (by rw [List.length_take]; omega)] at hj; cases hj
    rw [List.getElem?_take_of_lt hji] at hj
    obtain ⟨c0, c1⟩ := th_cells h hj
    have hc2 : w2.cell? ⟨q, 0 + j * 2 + t, none⟩ = w.cell? ⟨q, j * 2 + t, none⟩ := by rw [← hcell (j * 2 + t) (by omega), Nat.zero_add]; simp only [World.cell?, hq2]
    rw [hc2]
    have ht2 : t = 0 ∨ t = 1 := by omega
    rcases ht2 with rfl | rfl
    · exact c0
    · exact c1
  · obtain ⟨e1, hO', hb⟩ := hK j x T h1 h2
    have hO := hO'.keepR hb hk2
    obtain ⟨A', c', e, _, hr⟩ := hO.rd (by omega) byL_len
    injection e with e1' e2 e3
    refine ⟨e1, e2, fun h0 => ?_⟩
    rw [← e1'] at hr
    obtain ⟨b, o, ea, _, hc⟩ := hr h0
    exact ⟨b, o, ea, hb b (by rw [ea]; rfl), hc⟩
set_option maxRecDepth 1000000 in
set_option maxHeartbeats 32000000 in
theorem fn_delete (q N c : Nat) (TT : List Tb) (base : Nat) (w0 w : World) (hO0 : OwnT w0 base (.slice (some ⟨q, 0, none⟩) N c) TT) (hSw : Since w0 w) (hN : N ≤ 1000) :
    Calls Tryz.prog 58 #[.slice (some ⟨q, 0, none⟩) N c, .func (.func 35) #[] #[]] w (DelP TT q base w0.heap.size w) := by
  have hO := hO0.since hSw
  have hNL := hO.len
  have hR : RdTL w w.heap.size (some ⟨q, 0, none⟩) TT := by
    obtain ⟨A, c', e, _, hr⟩ := hO.rd
    injection e with e1
    rw [e1]; exact hr
  have hR0 : RdTS base w0.heap.size w (some ⟨q, 0, none⟩) TT := hO0.rds hSw
  have HI := Lib.hid (sf_index 35 #[] isGen (some ⟨q, 0, none⟩) N c TT w hR hNL (by simp only [maxLen]; omega) enters_gen (fun T v w1 _ _ => cl_gen T v w1))
  obtain ⟨hs, hl, hG0, hK0⟩ := hO0
  have hq0 := (hG0.lt (g := q) rfl).2
  have hG := hG0.since hSw
  have hK : ∀ (j : Nat) h T, hs[j]? = some h → TT[j]? = some T → h.tag = T.tag ∧ OwnB w base (.slice h.A h.n h.c) T.data ∧ ∀ g, (Value.slice h.A h.n h.c).ownBlock = some g → g < w0.heap.size := fun j x T h1 h2 => ⟨(hK0 j x T h1 h2).1, (hK0 j x T h1 h2).2.since hSw, fun g hg => ((hK0 j x T h1 h2).2.lt hg).2⟩
  clear hK0 hG0
  have hqlt := hG.lt (g := q) rfl
  have hne : 49 ≠ 5 := by decide
  obtain ⟨hf1, hf2⟩ := filt_rows hl (Q := fun h T => OwnB w base (.slice h.A h.n h.c) T.data ∧ ∀ g, (Value.slice h.A h.n h.c).ownBlock = some g → g < w0.heap.size) hK
  have hsN : hs.length = N := by omega
  have hap : ∀ {x : Th} {L : List Int}, OwnB w base (.slice x.A x.n x.c) L → (Value.slice x.A x.n x.c).ownBlock ≠ some q := fun {x L} hB => own_apart hG hB hne rfl
  rcases ixF_cases isGen TT 0 with ⟨h1, h2⟩ | ⟨i0, T0, h1, h2, h3, h4⟩
  · have hfe : TT.filter (fun T => !isGen T) = TT := List.filter_eq_self.2 (fun T hT => by rw [h2 T hT]; rfl)
    rw [h1] at HI
    have HFE := Lib.hid hfe
    have HNL := Lib.hid hNL
    have HR := Lib.hid hR0
    have HSW := Lib.hid hSw
    clear hR hR0 hO hSw hG hK hl hf1 hf2 hap h1 h2 hfe hNL hsN hqlt
    go_enter Tryz.func58, Tryz.ntmps58
    go_wp2_with (go_at_call 75; (with_reducible refine HI.out.mono ?_); rintro e w2 ⟨rfl, hS2⟩)
    go_ret
    refine ⟨some ⟨q, 0, none⟩, c, ?_, ?_, (Nigh.refl q w).since hS2⟩
    · rw [HFE.out, ← HNL.out]; rfl
    · rw [HFE.out]; exact HR.out.since hS2 HSW.out.below.size
  · rw [h1, Nat.zero_add] at HI
    have hi0 : i0 < hs.length := by
      rcases Nat.lt_or_ge i0 TT.length with h | h
      · omega
      · rw [List.getElem?_eq_none h] at h2; cases h2
    have hs0 : hs[i0]? = some hs[i0] := List.getElem?_eq_getElem hi0
    have hk0 : keepH hs[i0] = false := by unfold keepH; rw [(hK i0 _ T0 hs0 h2).1]; show (!isGen T0) = false; rw [h3]; rfl
    have hst := hsJ_start (hs := hs) (i := i0) (fun h hh => by
      obtain ⟨j, hj⟩ := List.getElem?_of_mem hh
      have hji : j < i0 := by
        rcases Nat.lt_or_ge j i0 with h | h
        · exact h
        · rw [List.getElem?_eq_none (by rw [List.length_take]; omega)] at hj; cases hj
      rw [List.getElem?_take_of_lt hji] at hj
      have hjT : j < TT.length := by omega
      have hU := List.getElem?_eq_getElem hjT
      have := h4 TT[j] (List.mem_of_getElem? (by rw [List.getElem?_take_of_lt hji]; exact hU))
      unfold keepH
      rw [(hK j h _ hj hU).1]
      show (!isGen TT[j]) = true
      rw [this]; rfl) (by omega)
    have hst1 := hsJ_drop hs0 hk0
    rw [hst.1, hst.2] at hst1
    have hcN : N ≤ c := by
      obtain ⟨A, c', e, hc', _⟩ := OwnG.rd (by omega) thL_len hG
      injection e with e1 e2 e3
      omega
    have HNL := Lib.hid hNL
    have HST := Lib.hid hst1
    have HSN := Lib.hid hsN
    have HF1 := Lib.hid hf1
    have HF2 := Lib.hid hf2
    have HAP := Lib.hid (fun (x : Th) (L : List Int) (h : OwnB w base (.slice x.A x.n x.c) L) => hap h)
    have hiN : i0 < N := by omega
    have di : ((i0 : Int) == -1) = false := beq_eq_false_iff_ne.2 (by omega)
    have hNI : (N : Int) ≤ 1000 := by omega
    have hi0I : (i0 : Int) < (N : Int) := by omega
    have u0 : IntKind.i64.wrap ((i0 : Int) + 1) = ((i0 + 1 : Nat) : Int) := by rw [IntKind.wrap_i64]; omega
    have HQ0 := Lib.hid hq0
    clear hR hR0 hO hSw hq0 hK hl hf1 hf2 hap h1 h2 h3 h4 hNL hsN hs0 hk0 hst hst1 hi0
    go_enter Tryz.func58, Tryz.ntmps58
    go_wp2_with (go_at_call 75; (with_reducible refine HI.out.mono ?_); rintro e w2 ⟨rfl, hS2⟩)
    have hG2 := hG.since hS2
    have hN2 := (Nigh.refl q w).since hS2
    clear hG HI di
    go_loopw [5, 6] (fun v y wr => ∃ (j i : Nat), j ≤ N ∧ i < j ∧ v = .int .i64 (i : Int) ∧ y = .int .i64 (j : Int) ∧ Hid (((hs.take j).filter keepH).length = i) ∧ OwnG 49 2 thL wr base (.slice (some ⟨q, 0, none⟩) N c) (hsJ hs j) ∧ Nigh q w wr) (fun _ y _ => N - (intOf y).toNat)
    case atStart => exact ⟨i0 + 1, i0, by omega, by omega, rfl, by first | rfl | simp | go_num, Lib.hid HST.out.2, by rw [HST.out.1]; exact hG2, hN2⟩
    case round =>
      obtain ⟨j, i, hj, hij, rfl, rfl, HK, hO, hNg⟩ := hrel
      clear hG2 hN2
      by_cases hjN : j < N
      · have hj1 : (j : Int) < (N : Int) := by omega
        have hjL : j < hs.length := by rw [HSN.out]; exact hjN
        have hsj : hs[j]? = some hs[j] := List.getElem?_eq_getElem hjL
        obtain ⟨c0, c1⟩ := th_cells hO (hsJ_at hsj)
        have HKE := Lib.hid (fun h => hsJ_keep hsj h)
        have HDR := Lib.hid (fun h => hsJ_drop hsj h)
        rw [HK.out] at HKE HDR
        generalize hs[j] = x at *
        have hlen := hsJ_len hs j
        have hiL : i < (hsJ hs j).length := by rw [hlen, HSN.out]; omega
        obtain ⟨⟨xs, d0⟩, ⟨xA, xm, xk, d1⟩, d2, d3, hqr⟩ := own_thcell hO hiL
        have hiI : (i : Int) < (N : Int) := by omega
        have hcell := Lib.hid (fun (w3 : World) (h : Since wr w3) => And.intro ((h.1 _ _ hqr).trans d0) (And.intro ((h.1 _ _ hqr).trans d1) (And.intro ((h.2.1 _ _ hqr).trans d2) ((h.2.1 _ _ hqr).trans d3))))
        have uj : IntKind.i64.wrap ((j : Int) + 1) = ((j + 1 : Nat) : Int) := by rw [IntKind.wrap_i64]; omega
        have ui : IntKind.i64.wrap ((i : Int) + 1) = ((i + 1 : Nat) : Int) := by rw [IntKind.wrap_i64]; omega
        have hqne : ¬ q = wr.heap.size := by omega
        clear hsj hjL d0 d1 d2 d3 hlen
        obtain ⟨xt, xA2, xn2, xc2⟩ := x
        have HGH := Lib.hid (fun (v : Value) (w3 : World) => genH ⟨xt, xA2, xn2, xc2⟩ v w3)
        simp only at c0 c1 HGH
        cases hke : keepH ⟨xt, xA2, xn2, xc2⟩
        · rw [hke] at HGH
          have hd := HDR.out hke
          have HD := Lib.hid hd
          clear HKE HDR hd hke
          go_wp2_with (go_at_call 35; (with_reducible refine (HGH.out _ _).mono ?_); rintro e w4 ⟨rfl, hS4⟩; have hS4r := ((Since.refl wr).alloc (.cells #[.string xt, .slice xA2 xn2 xc2] 49)).trans hS4)
          go_roundw
          case rel => exact ⟨j + 1, i, by omega, by omega, rfl, by first | rfl | go_num, Lib.hid (by rw [HD.out.2]), by rw [HD.out.1]; exact hO.since hS4r, hNg.since hS4r⟩
          case measure => simp [intOf]; omega
        · rw [hke] at HGH
          have hd := HKE.out hke
          have HD := Lib.hid hd
          clear HKE HDR hd hke
          go_wp2_with (go_at_call 35; (with_reducible refine (HGH.out _ _).mono ?_); rintro e w4 ⟨rfl, hS4⟩; have hS4r := ((Since.refl wr).alloc (.cells #[.string xt, .slice xA2 xn2 xc2] 49)).trans hS4; obtain ⟨g0, g1, g2⟩ := two_tb hS4; obtain ⟨e0, e1, e2, e3⟩ := hcell.out _ hS4r)
          have hset := own_thset (hO.since hS4r) hiL ⟨xt, xA2, xn2, xc2⟩
          rw [HD.out.1] at hset
          go_roundw
          case rel => exact ⟨j + 1, i + 1, by omega, by omega, by first | rfl | go_num, by first | rfl | go_num, Lib.hid (by rw [HD.out.2]), hset, ((hNg.since hS4r).set _ _).set _ _⟩
          case measure => simp [intOf]; omega
      · obtain rfl : j = N := by omega
        have hj1 : ¬ (j : Int) < (j : Int) := by omega
        have hci : ¬ c = i := by omega
        have hc0 : ¬ c = 0 := by omega
        have hiI : (i : Int) ≤ (j : Int) := by omega
        have hi0' : (0 : Int) ≤ (i : Int) := by omega
        have hic : (i : Int) ≤ (c : Int) := by omega
        have hjs : hs.take j = hs := by rw [← HSN.out]; exact List.take_length
        have hfi : (hs.filter keepH).length = i := by rw [← HK.out, hjs]
        have hJ : hsJ hs j = hs.filter keepH ++ hs.drop (hs.filter keepH).length := by rw [← HSN.out]; exact hsJ_all hs
        have hLn : (hsJ hs j).length = j := by rw [hsJ_len, HSN.out]
        have hcl := fun (ty : TypeId) (k : Nat) => run_clear_k (P := Tryz.prog) wr 22 49 ty (.agg #[.string ByteArray.empty, .slice none 0 0]) 2 Tryz.underlying22 infoTbz rfl (by intro v hv; simp [Value.cells] at hv; rcases hv with rfl | rfl <;> rfl) q (i * 2) (j - i) k (by omega) (by omega) (fun o ho => by
          obtain ⟨⟨s, d0⟩, ⟨xA, xm, xk, d1⟩, _⟩ := own_thcell hO (j := (i * 2 + o) / 2) (by rw [hLn]; omega)
          rcases Nat.mod_two_eq_zero_or_one (i * 2 + o) with h | h
          · rw [show i * 2 + o = (i * 2 + o) / 2 * 2 by omega, d0]; rfl
          · rw [show i * 2 + o = (i * 2 + o) / 2 * 2 + 1 by omega, d1]; rfl) (fun o ho => by
          obtain ⟨_, _, d2, d3, _⟩ := own_thcell hO (j := (i * 2 + o) / 2) (by rw [hLn]; omega)
          rcases Nat.mod_two_eq_zero_or_one (i * 2 + o) with h | h
          · rw [show i * 2 + o = (i * 2 + o) / 2 * 2 by omega]; exact d2
          · rw [show i * 2 + o = (i * 2 + o) / 2 * 2 + 1 by omega]; exact d3)
        generalize (Builtin.zeroCells (Value.agg #[.string ByteArray.empty, .slice none 0 0]).cells (j - i)).toList = Z at *
        have HFI := Lib.hid hfi
        have HJ := Lib.hid hJ
        clear hfi hJ hjs hLn
        go_wp2_with fail
        go_ret
        refine ⟨some ⟨q, 0, none⟩, c, by rw [← HF1.out, HFI.out]; rfl, ?_, nigh_setCells q Z (i * 2) hNg⟩
        refine del_read HQ0.out (i := i) hO (by rw [hsJ_len, HSN.out]; omega) (by rw [← HF1.out, HFI.out]) (nigh_setCells q Z (i * 2) (Nigh.refl q wr)) (fun o ho => World.cell?_setCells_out q Z (i * 2) wr ⟨q, o, none⟩ (fun _ _ => .inl ho)) (fun k x T h1 h2 => ?_)
        rw [HJ.out, HFI.out, List.take_append_of_le_length (by rw [HFI.out]; omega), List.take_of_length_le (by rw [HFI.out]; omega)] at h1
        obtain ⟨e1, e2⟩ := HF2.out k x T h1 h2
        exact ⟨e1, OwnG.near e2.1 (nigh_setCells q Z (i * 2) hNg) (HAP.out x _ e2.1), e2.2⟩
end Go.Proofs.YteckkcpnfeoehaaGreatDoor

/-
  Layer 9: Read of the program.
-/
namespace Go.Proofs.YteckkcpnfeoehaaGreatDoor
set_option maxRecDepth 100000
open Go.RowKit Go.ChangeShapes Go.WideShapes Go.Deep
set_option linter.unusedVariables false
set_option linter.unusedSimpArgs false

def zX : Fh := ⟨none, 0, none, 0, none, 0⟩
theorem fnC_one (x : Fh) (nt : Nat) (h : Hd9) (m : Mx9) (nm : Nat) (ct : Int) (ng : Nat) : (fnC x nt h m nm ct ng).toArray.all (·.oneCell') = true := all_oneCell_toArray (by
  intro v hv
  unfold fnC at hv
  rw [List.mem_cons, List.mem_append, List.mem_append] at hv
  rcases hv with rfl | h | h | h
  · rfl
  · exact hdC_ones _ v h
  · exact mxC_ones _ v h
  · simp only [List.mem_cons, List.not_mem_nil, or_false] at h
    rcases h with rfl | rfl | rfl <;> rfl)
theorem new_fn (w : World) (b : Nat) (hb : b = w.heap.size) (t : TypeId) : BoxL (w.alloc (.cells #[.slice none 0 0, .int .i64 0, .int .i64 0, .int .i64 0, .int .i64 0, .int .i64 0, .bool false, .int .i64 0, .int .i64 0, .int .i64 0, .int .i64 0, .int .i64 0, .int .i64 0, .int .i64 0, .slice none 0 0, .int .i64 0, .slice none 0 0] t)) b (fnC zX 0 zH zM 0 0 0) := BoxL.new w b hb t _
section
variable {ops : Array Oper} {rest : List Oper} {op : Oper} {a : Act} {Q : Exit → Act → World → Prop} {w : World} {b nt nm ng : Nat} {y : Fh} {h : Hd9} {m : Mx9} {ct : Int}
theorem wp_fn_store (hgd : op.guard = none) (x z : Operand) (ho : op.op = .store 30 x z) (hx : a.eval x = .pointer (some ⟨b, 0, none⟩)) (hB : BoxL w b (fnC y nt h m nm ct ng)) (y' : Fh) (nt' : Nat) (h' : Hd9) (m' : Mx9) (nm' : Nat) (ct' : Int) (ng' : Nat) (hz : a.eval z = .agg (fnC y' nt' h' m' nm' ct' ng').toArray) (hk : ∀ w', BoxL w' b (fnC y' nt' h' m' nm' ct' ng') → Nigh b w w' → wpList Tryz.prog ops Q rest (a.put op.dst undef) w') : wpList Tryz.prog ops Q (op :: rest) a w :=
  wpList_store_box hgd _ x z ho hx hB _ hz rfl infoFn (fnC_one _ _ _ _ _ _ _) hk
theorem wp_fn_hd (hgd : op.guard = none) (x z : Operand) (ho : op.op = .store 24 x z) (hx : a.eval x = .pointer (some ⟨b, 1, none⟩)) (hB : BoxL w b (fnC y nt h m nm ct ng)) (h' : Hd9) (hz : a.eval z = .agg (hdC h').toArray) (hk : ∀ w', BoxL w' b (fnC y nt h' m nm ct ng) → Nigh b w w' → wpList Tryz.prog ops Q rest (a.put op.dst undef) w') : wpList Tryz.prog ops Q (op :: rest) a w :=
  wpList_store_part hgd _ x z ho 1 hx hB (hdC h') _ hz infoHd (hdC_one h') (by show 1 + 6 ≤ 17; omega) (fun j v hv => by
    by_cases h1 : j < 1
    · obtain rfl : j = 0 := by omega
      exact .inr ⟨.inl (by omega), hv⟩
    · by_cases h2 : j < 7
      · refine .inl ⟨j - 1, by omega, ?_⟩
        obtain ⟨i, rfl⟩ : ∃ i, j = i + 1 := ⟨j - 1, by omega⟩
        rw [Nat.add_sub_cancel]
        unfold fnC at hv
        rw [List.getElem?_cons_succ, List.getElem?_append_left (by show i < 6; omega)] at hv
        exact hv
      · refine .inr ⟨.inr (by show 1 + 6 ≤ j; omega), ?_⟩
        obtain ⟨i, rfl⟩ : ∃ i, j = i + 1 := ⟨j - 1, by omega⟩
        unfold fnC at hv ⊢
        rw [List.getElem?_cons_succ, List.getElem?_append_right (by show 6 ≤ i; omega)] at hv ⊢
        exact hv) hk
theorem wp_fn_mx (hgd : op.guard = none) (x z : Operand) (ho : op.op = .store 26 x z) (hx : a.eval x = .pointer (some ⟨b, 7, none⟩)) (hB : BoxL w b (fnC y nt h m nm ct ng)) (m' : Mx9) (hz : a.eval z = .agg (mxC m').toArray) (hk : ∀ w', BoxL w' b (fnC y nt h m' nm ct ng) → Nigh b w w' → wpList Tryz.prog ops Q rest (a.put op.dst undef) w') : wpList Tryz.prog ops Q (op :: rest) a w :=
  wpList_store_part hgd _ x z ho 7 hx hB (mxC m') _ hz infoMx (mxC_one m') (by show 7 + 7 ≤ 17; omega) (fun j v hv => by
    by_cases h1 : j < 7
    · refine .inr ⟨.inl h1, ?_⟩
      cases j with
      | zero => exact hv
      | succ i =>
        unfold fnC at hv ⊢
        rw [List.getElem?_cons_succ, List.getElem?_append_left (by show i < 6; omega)] at hv ⊢
        exact hv
    · obtain ⟨i, rfl⟩ : ∃ i, j = i + 1 := ⟨j - 1, by omega⟩
      unfold fnC at hv
      rw [List.getElem?_cons_succ, List.getElem?_append_right (by show 6 ≤ i; omega)] at hv
      by_cases h2 : i - 6 < 7
      · rw [List.getElem?_append_left (by show i - 6 < 7; omega)] at hv
        exact .inl ⟨i - 6, by omega, hv⟩
      · refine .inr ⟨.inr (by show 7 + 7 ≤ i + 1; omega), ?_⟩
        unfold fnC
        rw [List.getElem?_cons_succ, List.getElem?_append_right (by show 6 ≤ i; omega), List.getElem?_append_right (by show 7 ≤ i - 6; omega)]
        rw [List.getElem?_append_right (by show 7 ≤ i - 6; omega)] at hv
        exact hv) hk
theorem fn_put0 (hB : BoxL w b (fnC y nt h m nm ct ng)) (A : Option Addr) (n c : Nat) : BoxL (w.setCell ⟨b, 0, none⟩ (.slice A n c)) b (fnC ⟨A, c, y.Am, y.cm, y.Ag, y.cg⟩ n h m nm ct ng) := hB.set 0 _
theorem fn_put14 (hB : BoxL w b (fnC y nt h m nm ct ng)) (A : Option Addr) (n c : Nat) : BoxL (w.setCell ⟨b, 14, none⟩ (.slice A n c)) b (fnC ⟨y.At, y.ct, A, c, y.Ag, y.cg⟩ nt h m n ct ng) := hB.set 14 _
theorem fn_put15 (hB : BoxL w b (fnC y nt h m nm ct ng)) (k : Int) : BoxL (w.setCell ⟨b, 15, none⟩ (.int .i64 k)) b (fnC y nt h m nm k ng) := hB.set 15 _
theorem fn_put16 (hB : BoxL w b (fnC y nt h m nm ct ng)) (A : Option Addr) (n c : Nat) : BoxL (w.setCell ⟨b, 16, none⟩ (.slice A n c)) b (fnC ⟨y.At, y.ct, y.Am, y.cm, A, c⟩ nt h m nm ct n) := hB.set 16 _
end
theorem OwnT.some {w : World} {base : Nat} {v : Value} {TT : List Tb} (h : OwnT w base v TT) (h0 : 0 < TT.length) : ∃ q c, v = .slice (some ⟨q, 0, none⟩) TT.length c := by
  obtain ⟨hs, hl, ho, _⟩ := h
  rcases ho.2 with ⟨_, h1⟩ | ⟨g, cap, cur, e, _⟩
  · omega
  · exact ⟨g, cap, by rw [e, hl]⟩
/-- What is read: how many tables, and their bytes. -/
theorem rd1_facts {L : List Int} {a : Nat} {last : ByteArray} (hb : Bytes L) (h : (rd1 L a last).1 = 0) : Bytes (rd1 L a last).2.data ∧ (rd1 L a last).2.data.length ≤ L.length ∧ (rd1 L a last).2.tag.size = 4 := by
  unfold rd1 at h ⊢
  split
  · rename_i h1; rw [if_pos h1] at h; cases h
  · rename_i h1
    rw [if_neg h1] at h
    simp only at h ⊢
    have ht : TagG (strOf (cutL L a 4)) = true := by
      cases hg : TagG (strOf (cutL L a 4))
      · exact absurd (.inl hg) h1
      · rfl
    have hsz : (strOf (cutL L a 4)).size = 4 := (of_decide_eq_true ht).1
    generalize (numAt (fnL L) (a + 12) 4).toNat = m at *
    generalize (if m = 0 then 0 else (numAt (fnL L) (a + 8) 4).toNat) = p at *
    by_cases h2 : L.length < p + m
    · rw [if_pos h2] at h; cases h
    · rw [if_neg h2] at h ⊢
      by_cases h3 : sumI (blank4 ⟨strOf (cutL L a 4), cutL L p m⟩) = numAt (fnL L) (a + 4) 4
      · rw [if_pos h3]
        refine ⟨bytes_blank (bytes_cut hb p m), ?_, hsz⟩
        show (blank4 _).length ≤ L.length
        rw [blank4_len]
        show (cutL L p m).length ≤ L.length
        rw [cutL_len (by omega)]
        omega
      · rw [if_neg h3] at h; cases h
theorem rd4Go_facts {L : List Int} (hb : Bytes L) : ∀ (k i : Nat) (last : ByteArray), (rd4Go L k i last).1 = 0 → (rd4Go L k i last).2.length = k ∧ ∀ T, T ∈ (rd4Go L k i last).2 → Bytes T.data ∧ T.data.length ≤ L.length ∧ T.tag.size = 4 := by
  intro k
  induction k with
  | zero => intro i last _; exact ⟨rfl, fun T hT => by cases hT⟩
  | succ k ih =>
    intro i last h
    unfold rd4Go at h ⊢
    by_cases h1 : (rd1 L (12 + 16 * i) last).1 = 0
    · rw [if_pos h1] at h ⊢
      by_cases h2 : (rd4Go L k (i + 1) (rd1 L (12 + 16 * i) last).2.tag).1 = 0
      · rw [if_pos h2]
        obtain ⟨i1, i2⟩ := ih _ _ h2
        refine ⟨by simp [i1], fun T hT => ?_⟩
        rcases List.mem_cons.1 hT with rfl | hT
        · exact rd1_facts hb h1
        · exact i2 T hT
      · rw [if_neg h2] at h; exact absurd h h2
    · rw [if_neg h1] at h; exact absurd h h1
theorem rd4_facts {L : List Int} (hb : Bytes L) (h : (rd4 L).1 = 0) : (rd4 L).2.length ≤ 64 ∧ ∀ T, T ∈ (rd4 L).2 → Bytes T.data ∧ T.data.length ≤ 1048576 ∧ T.tag.size = 4 := by
  unfold rd4 at h ⊢
  split
  · rename_i h1; rw [if_pos h1] at h; cases h
  · rename_i h1
    rw [if_neg h1] at h
    split
    · rename_i h2; rw [if_pos h2] at h; cases h
    · rename_i h2
      rw [if_neg h2] at h
      split
      · rename_i h3; rw [if_pos h3] at h; cases h
      · rename_i h3
        rw [if_neg h3] at h
        split
        · rename_i h4; rw [if_pos h4] at h; cases h
        · rename_i h4
          rw [if_neg h4] at h
          obtain ⟨i1, i2⟩ := rd4Go_facts hb _ _ _ h
          refine ⟨by rw [i1]; omega, fun T hT => ?_⟩
          obtain ⟨a, b, c⟩ := i2 T hT
          exact ⟨a, by omega, c⟩
def Rd9P (R : Int × Fn9) (w : World) (e : Ending) (w' : World) : Prop := ∃ x, e = .returned (.tuple #[.agg (fnV x R.2), .int .i64 R.1]) ∧ FnR w' w'.heap.size x R.2 ∧ R.2.GG.length ≤ x.cg ∧ Since w w'
theorem rd9_no {R : Int × Fn9} {w w' : World} {x : Int} (hR : R = (x, none9)) (hS : Since w w') : Rd9P R w (.returned (.tuple #[.agg (fnC zX 0 zH zM 0 0 0).toArray, .int .i64 x])) w' := by
  subst hR
  exact ⟨zX, rfl, ⟨RdTL.nil, Rd.zero, RdBL.nil⟩, Nat.le_refl _, hS⟩
end Go.Proofs.YteckkcpnfeoehaaGreatDoor
