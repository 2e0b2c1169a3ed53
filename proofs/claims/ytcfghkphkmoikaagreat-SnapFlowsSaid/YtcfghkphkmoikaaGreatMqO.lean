/-
  Texts of this seat, put together: each with its own head.
-/
import Derived.Test.YtcfghkphkmoikaaGreatSnP
import Derived.Test.YtcfghkphkmoikaaGreatMqN
import Derived.Test.YtcfghkphkmoikaaGreatMqH
import Derived.Deep.CutBlock
import Derived.Deep.DeepCutAuto

/-
  Layer 17: a tree of pixels in memory; a copy of points.
-/
namespace Go.Proofs.YtcfghkphkmoikaaGreat
set_option maxRecDepth 100000
open Go.RowKit Go.Sort
set_option linter.unusedVariables false
set_option maxRecDepth 100000 in
set_option maxHeartbeats 4000000 in
/-- slices.Clone of points. -/
theorem sn_clone (A : Option Addr) (n c : Nat) (L : List Pq) (w : World) (hn : n = L.length) (hr : RdG 2 ptL w w.heap.size A L) (hL : n ≤ 100000000) :
    Calls Tryz.prog 67 #[.slice A n c] w fun e w' => ∃ v, e = .returned v ∧ OwnG 23 2 ptL w' w.heap.size v L ∧ Since w w' := by
  have hnil := fun (w : World) (a : Option Addr) (n c : Nat) => Go.Lib.run_eql_slice_nil (P := Tryz.prog) w 28 23 a n c 0 0 Tryz.underlying28
  cases A with
  | none =>
    have h0 : L = [] := by
      rcases L with _ | ⟨a, l⟩
      · rfl
      · obtain ⟨b, o, h, _⟩ := hr (by simp)
        cases h
    subst h0
    subst hn
    go_enter Tryz.func67, Tryz.ntmps67
    go_wp2
    go_ret
    exact ⟨_, rfl, OwnG.nil _ _ _ _ _, by (repeat (first | with_reducible (exact Since.refl _) | with_reducible assumption | with_reducible (refine Since.drew ?_) | with_reducible (refine Since.drewN ?_ _) | with_reducible (refine Since.alloc ?_ _) | (with_reducible (refine Since.setCell ?_ ?_ _); rotate_left; focus (first | (simp; done) | (simp; omega) | omega)) | (with_reducible (refine Since.trans ?_ (by with_reducible assumption)))))⟩
  | some a =>
    subst hn
    have HR := Lib.hid hr
    clear hr
    go_enter Tryz.func67, Tryz.ntmps67
    go_wp2_with (at_builtin; refine wpList_append_g rfl _ _ 28 23 rfl (by omega) ptL_len ptL_one 16 Tryz.underlying28 infoPt w.heap.size _ [] rfl (own_empty 23 2 ptL w w.heap.size w.heap.size (Nat.le_refl _) rfl) w.heap.size _ _ L rfl (HR.out.since (Nat.le_refl _) ((Since.refl w).alloc _)) (by simp only [List.length_nil]; omega) (by simp only [List.length_nil, maxLen]; omega) (by simp) ?_; intro v7 w7 hO7 hg7 hb7)
    have hS7 : Since w w7 := since_grown ((Since.refl w).alloc _) hg7 (fun k e => (hb7 k e).1)
    go_ret
    exact ⟨_, rfl, by simpa using hO7, hS7⟩
/-- A tree of pixels: the points, and the boxes of each level. -/
def TreeR (w : World) (B bt : Nat) (P : List Pq) (m : Nat) : Prop :=
  bt < B ∧ (∃ A c, w.cell? ⟨bt, 0, none⟩ = some (.slice A P.length c) ∧ RdG 2 ptL w B A P) ∧
  ∃ (A : Option Addr) (c : Nat) (hs : List Hd), w.cell? ⟨bt, 1, none⟩ = some (.slice A m c) ∧ hs.length = m ∧ RdG 1 hdL w B A hs ∧ ∀ k h, hs[k]? = some h → h.n = (lvl P k).length ∧ RdG 4 bxE w B h.A (lvl P k)
theorem TreeR.on {w w' : World} {bt : Nat} {P : List Pq} {m : Nat} (h : TreeR w w.heap.size bt P m) (k : Since w w') : TreeR w' w'.heap.size bt P m := by
  obtain ⟨h0, ⟨A, c, h1, h2⟩, A', c', hs, h3, h4, h5, h6⟩ := h
  refine ⟨k.2.2.1 _ h0, ⟨A, c, (k.1 _ _ h0).trans h1, h2.on k⟩, A', c', hs, (k.1 _ _ h0).trans h3, h4, h5.on k, fun j x hj => ⟨(h6 j x hj).1, (h6 j x hj).2.on k⟩⟩
/-- How many levels there are: as many as bring the boxes to one. -/
def TreeM (P : List Pq) (m : Nat) : Prop := if m = 0 then P.length ≤ 1 else (lvl P (m - 1)).length ≤ 1
theorem TreeM.cover {P : List Pq} {m : Nat} (h : TreeM P m) : P.length ≤ 8 ^ m := by
  unfold TreeM at h
  split at h
  · subst m; simpa using h
  · have hc := lvl_cover P (m - 1)
    rw [show m - 1 + 1 = m by omega] at hc
    calc P.length ≤ 8 ^ m * (lvl P (m - 1)).length := hc
      _ ≤ 8 ^ m * 1 := Nat.mul_le_mul_left _ h
      _ = 8 ^ m := Nat.mul_one _
end Go.Proofs.YtcfghkphkmoikaaGreat

/-
  Layer 17: 'plant', walked.
-/
namespace Go.Proofs.YtcfghkphkmoikaaGreat
set_option maxRecDepth 100000
open Go.RowKit Go.Sort
set_option linter.unusedVariables false
theorem OwnBx.put {w : World} {base q n c : Nat} {L : List Bx} (h : OwnG 130 4 bxE w base (.slice (some ⟨q, 0, none⟩) n c) L) (i : Nat) (x : Bx) (hi : i < L.length) :
    OwnG 130 4 bxE ((((w.setCell ⟨q, i * 4, none⟩ (.int .i64 x.lx)).setCell ⟨q, i * 4 + 1, none⟩ (.int .i64 x.ly)).setCell ⟨q, i * 4 + 2, none⟩ (.int .i64 x.mx)).setCell ⟨q, i * 4 + 3, none⟩ (.int .i64 x.my)) base (.slice (some ⟨q, 0, none⟩) n c) (L.set i x) := OwnG.put bxE_len h i x hi
theorem infoBx2 : ∃ i z, Tryz.prog.info? 130 = some i ∧ i.zero = some z ∧ i.size = 4 ∧ i.bytes = 32 ∧ z.cells.toList = bxE bx0 := by
  obtain ⟨i0, hi, hz0, hz1, hz2⟩ := info_parts infoBx0
  exact ⟨i0, _, hi, hz0, hz1, hz2, rfl⟩
/-- A block of two cells. -/
def TwoAt (w : World) (b : Nat) (t : TypeId) (u v : Value) : Prop := w.heap[b]? = some (Obj.cells #[u, v] t (0, 0))
section
variable {w w' : World} {b q : Nat} {t : TypeId} {u v : Value}
theorem TwoAt.lt (h : TwoAt w b t u v) : b < w.heap.size := (Array.getElem?_eq_some_iff.1 h).1
theorem TwoAt.c0 (h : TwoAt w b t u v) : w.cell? ⟨b, 0, none⟩ = some u := by simp [World.cell?, show w.heap[b]? = _ from h]
theorem TwoAt.c1 (h : TwoAt w b t u v) : w.cell? ⟨b, 1, none⟩ = some v := by simp [World.cell?, show w.heap[b]? = _ from h]
theorem TwoAt.fz (h : TwoAt w b t u v) (o : Nat) : w.frozen? ⟨b, o, none⟩ = false := by simp [World.frozen?, show w.heap[b]? = _ from h]
theorem TwoAt.new (w : World) (b : Nat) (hb : b = w.heap.size) (t : TypeId) (u v : Value) : TwoAt (w.alloc (.cells #[u, v] t)) b t u v := by subst hb; exact World.alloc_heap_new w _
theorem TwoAt.since (h : TwoAt w b t u v) (k : Since w w') : TwoAt w' b t u v := (k.below.block b h.lt).trans h
theorem TwoAt.but (h : TwoAt w b t u v) (k : KeepBut q w w') (hq : b ≠ q) : TwoAt w' b t u v := (k.2 b h.lt hq).trans h
theorem TwoAt.keep (h : TwoAt w b t u v) (k : w'.heap[b]? = w.heap[b]?) : TwoAt w' b t u v := k.trans h
theorem TwoAt.set1 (h : TwoAt w b t u v) (x : Value) : TwoAt (w.setCell ⟨b, 1, none⟩ x) b t u x := by
  obtain ⟨hlt, hk⟩ := Array.getElem?_eq_some_iff.1 h
  show (w.heap.modify b _)[b]? = _
  rw [Array.getElem?_eq_getElem (by rw [Array.size_modify]; exact hlt), Array.getElem_modify_self, hk]
  rfl
theorem own_ne2 {α : Type} {enc : α → List Value} {t' : TypeId} {k base : Nat} {s : Value} {L : List α} (h : OwnG t' k enc w base s L) (hb : TwoAt w b t u v) (hne : t' ≠ t) : s.ownBlock ≠ some b := OwnG.ne h hne hb
end
theorem own_rd {α : Type} {enc : α → List Value} {t : TypeId} {k base n c : Nat} {w : World} {A : Option Addr} {L : List α} (hk0 : 0 < k) (hk : ∀ a, (enc a).length = k) (h : OwnG t k enc w base (.slice A n c) L) : RdG k enc w w.heap.size A L ∧ n = L.length := by
  obtain ⟨A', c', e, _, h2⟩ := OwnG.rd hk0 hk h
  injection e with e1 e2 _
  subst e1
  exact ⟨h2, e2⟩
theorem own_cells {α : Type} {enc : α → List Value} {t : TypeId} {k base n c q : Nat} {w : World} {L : List α} (hk0 : 0 < k) (hk : ∀ a, (enc a).length = k) (h : OwnG t k enc w base (.slice (some ⟨q, 0, none⟩) n c) L) {i : Nat} {x : α} (hx : L[i]? = some x) :
    (∀ f, f < k → w.cell? ⟨q, i * k + f, none⟩ = some ((enc x).getD f undef)) ∧ ∀ o, w.frozen? ⟨q, o, none⟩ = false := by
  constructor
  · intro f hf
    obtain ⟨b, o, e, _, hc⟩ := (own_rd hk0 hk h).1 (by have := (List.getElem?_eq_some_iff.1 hx).1; omega)
    injection e with e
    injection e with e1 e2 _
    subst e1 e2
    have h2 := hc i x hx f hf
    rw [Nat.zero_add] at h2
    exact h2
  · intro o
    rcases h.2 with ⟨h0, _⟩ | ⟨g, cap, cur, e, _, hh, _⟩
    · cases h0
    · injection e with e _ _
      injection e with e
      injection e with e _
      subst e
      simp [World.frozen?, hh]
theorem ptb_at {P : List Pq} {n j : Nat} (hj : j < n) (hl : j ≤ P.length) : ((P.take j).map ptB ++ List.replicate (n - j) bx0)[j]? = some bx0 := by
  have e1 : ((P.take j).map ptB).length = j := by simp; omega
  rw [List.getElem?_append_right (by omega), e1, Nat.sub_self, List.getElem?_replicate, if_pos (by omega)]
theorem ptb_step {P : List Pq} {n j : Nat} {s : Pq} (h : P[j]? = some s) (hj : j < n) : ((P.take j).map ptB ++ List.replicate (n - j) bx0).set j (ptB s) = (P.take (j + 1)).map ptB ++ List.replicate (n - (j + 1)) bx0 := by
  have hl : j < P.length := (List.getElem?_eq_some_iff.1 h).1
  have e1 : ((P.take j).map ptB).length = j := by simp; omega
  have e2 : n - j = (n - (j + 1)) + 1 := by omega
  have h3 : ((P.take j).map ptB ++ List.replicate (n - j) bx0).set j (ptB s) = (P.take j).map ptB ++ (List.replicate (n - j) bx0).set 0 (ptB s) := by
    rw [List.set_append_right _ _ (by omega), e1, Nat.sub_self]
  rw [h3, e2, List.replicate_succ, List.set_cons_zero, List.take_add_one, h]
  simp
theorem infoLv0 : (Tryz.prog.info? 128).map (fun i => (i.zero, i.size, i.bytes)) = some (some (.slice none 0 0), 1, 24) := by kernel_rfl
theorem infoLv : ∃ i z, Tryz.prog.info? 128 = some i ∧ i.zero = some z ∧ i.size = 1 ∧ i.bytes = 24 ∧ z.cells.size = 1 := by
  obtain ⟨i0, hi, hz0, hz1, hz2⟩ := info_parts infoLv0
  exact ⟨i0, _, hi, hz0, hz1, hz2, rfl⟩
/-- What holds of the tree between two levels. -/
structure PlO (w : World) (bt n c1 : Nat) (A1 : Option Addr) (P : List Pq) (m : Nat) (cur : List Bx) (lv vl : Value) (hs : List Hd) (wr : World) : Prop where
  ecur : cur = if m = 0 then P.map ptB else lvl P (m - 1)
  few : m + cur.length ≤ n
  len : hs.length = m
  oP : OwnG 23 2 ptL wr w.heap.size (.slice A1 n c1) P
  oC : OwnG 130 4 bxE wr w.heap.size lv cur
  tT : TwoAt wr bt 126 (.slice A1 n c1) vl
  oL : OwnG 128 1 hdL wr w.heap.size vl hs
  oB : ∀ k h, hs[k]? = some h → OwnG 130 4 bxE wr w.heap.size (.slice h.A h.n h.c) (lvl P k)
  sn : Since w wr
  bb : w.heap.size ≤ bt
def PlI (w : World) (bt n c1 : Nat) (A1 : Option Addr) (P : List Pq) (lv : Value) (wr : World) : Prop := ∃ m cur vl hs, PlO w bt n c1 A1 P m cur lv vl hs wr
theorem pl_next {P : List Pq} {m : Nat} {cur : List Bx} (h : cur = if m = 0 then P.map ptB else lvl P (m - 1)) : grp cur = lvl P m := by
  cases m with
  | zero => rw [h, if_pos rfl]; rfl
  | succ k => rw [h, if_neg (by omega)]; rfl
theorem pl_step {w wr w5 w7 : World} {bt n c1 n2 c2 : Nat} {A1 A2 : Option Addr} {P : List Pq} {m : Nat} {cur : List Bx} {lv vl v7 : Value} {hs : List Hd} {ty : TypeId} (h : PlO w bt n c1 A1 P m cur lv vl hs wr) (h1 : 1 < cur.length) (hS : Since wr w5)
    (hO : OwnG 130 4 bxE w5 wr.heap.size (.slice A2 n2 c2) (grp cur)) (hO7 : OwnG 128 1 hdL w7 w.heap.size v7 (hs ++ [⟨A2, n2, c2⟩])) (hg : (w5.alloc (.cells #[.slice A2 n2 c2] ty)).grownBy w7 vl.ownBlock) :
    TwoAt w7 bt 126 (.slice A1 n c1) vl ∧ PlO w bt n c1 A1 P (m + 1) (grp cur) (.slice A2 n2 c2) v7 (hs ++ [⟨A2, n2, c2⟩]) (w7.setCell ⟨bt, 1, none⟩ v7) := by
  have hsz := h.sn.below.size
  have hA : Since wr (w5.alloc (.cells #[.slice A2 n2 c2] ty)) := hS.alloc _
  have oP := h.oP.since hA
  have oL := h.oL.since hA
  have tT := h.tT.since hA
  have oB := fun k x hx => (h.oB k x hx).since hA
  have oN : OwnG 130 4 bxE (w5.alloc (.cells #[.slice A2 n2 c2] ty)) w.heap.size (.slice A2 n2 c2) (grp cur) := OwnG.lower' (hO.alloc _) hsz
  have oP7 := oP.grown hg (fun q hq => own_apart oP oL (by decide) hq)
  have oN7 := oN.grown hg (fun q hq => own_apart oN oL (by decide) hq)
  have oB7 := fun k x hx => (oB k x hx).grown hg (fun q hq => own_apart (oB k x hx) oL (by decide) hq)
  have tT7 : TwoAt w7 bt 126 (.slice A1 n c1) vl := (hg.block bt tT.lt (fun e => own_ne2 oL tT (by decide) e.symm)).trans tT
  have kb : KeepBut bt w7 (w7.setCell ⟨bt, 1, none⟩ v7) := (KeepBut.refl _ _).set _ _
  have sn7 : Since w w7 := since_grown (h.sn.trans hA) hg (fun k hk => (oL.lt hk).1)
  refine ⟨tT7, ?_, ?_, ?_, oP7.but kb (own_ne2 oP7 tT7 (by decide)), oN7.but kb (own_ne2 oN7 tT7 (by decide)), tT7.set1 v7, hO7.but kb (own_ne2 hO7 tT7 (by decide)), ?_, sn7.setCell (p := ⟨bt, 1, none⟩) h.bb _, h.bb⟩
  · rw [if_neg (by omega), Nat.add_sub_cancel]; exact pl_next h.ecur
  · have := h.few
    rw [grp_len]; omega
  · rw [List.length_append, h.len]; rfl
  · intro k x hx
    have hB : OwnG 130 4 bxE w7 w.heap.size (.slice x.A x.n x.c) (lvl P k) := by
      by_cases hk : k < hs.length
      · rw [List.getElem?_append_left hk] at hx
        exact oB7 k x hx
      · rw [List.getElem?_append_right (by omega)] at hx
        have e : k - hs.length = 0 := by
          rcases Nat.eq_zero_or_pos (k - hs.length) with e | e
          · exact e
          · rw [List.getElem?_eq_none (by simp; omega)] at hx; cases hx
        rw [e] at hx
        simp only [List.getElem?_cons_zero, Option.some.injEq] at hx
        subst hx
        have hkm : k = m := by rw [← h.len]; omega
        rw [hkm, ← pl_next h.ecur]
        exact oN7
    exact hB.but kb (own_ne2 hB tT7 (by decide))
/-- What 'plant' leaves. -/
def PlantP (w : World) (n : Nat) (H : List Pq) (e : Ending) (w' : World) : Prop := ∃ bt P m, e = .returned (.pointer (some ⟨bt, 0, none⟩)) ∧ List.Perm P H ∧ TreeR w' w'.heap.size bt P m ∧ TreeM P m ∧ m ≤ n ∧ Since w w'
def lenOf : Value → Nat
  | .slice _ n _ => n
  | _ => 0
/-- An own row of some things is no nil. -/
theorem own_some {α : Type} {enc : α → List Value} {t : TypeId} {k base : Nat} {w : World} {v : Value} {L : List α} (h : OwnG t k enc w base v L) (hL : 0 < L.length) : ∃ g c, v = .slice (some ⟨g, 0, none⟩) L.length c ∧ L.length ≤ c := by
  rcases h.2 with ⟨_, h0⟩ | ⟨g, cap, cur, rfl, _, _, h1, _⟩
  · omega
  · exact ⟨g, cap, rfl, h1⟩
/-- What the tree is in the end. -/
theorem pl_done {w wr : World} {bt n c1 : Nat} {A1 : Option Addr} {P : List Pq} {m : Nat} {cur : List Bx} {lv vl : Value} {hs : List Hd} (h : PlO w bt n c1 A1 P m cur lv vl hs wr) (h1 : cur.length ≤ 1) (hn : P.length = n) : TreeR wr wr.heap.size bt P m ∧ TreeM P m ∧ m ≤ n := by
  refine ⟨⟨h.tT.lt, ⟨A1, c1, by rw [hn]; exact h.tT.c0, (own_rd (by omega) ptL_len h.oP).1⟩, ?_⟩, ?_, by have := h.few; omega⟩
  · obtain ⟨A, c, e, _, hr⟩ := OwnG.rd (by omega) hdL_len h.oL
    refine ⟨A, c, hs, by rw [← h.len, ← e]; exact h.tT.c1, h.len, hr, fun k x hx => ?_⟩
    obtain ⟨r, l⟩ := own_rd (by omega) bxE_len (h.oB k x hx)
    exact ⟨l, r⟩
  · unfold TreeM
    have e := h.ecur
    split
    · rename_i h0
      rw [if_pos h0] at e
      rw [e] at h1
      simpa using h1
    · rename_i h0
      rw [if_neg h0] at e
      rw [← e]; exact h1
set_option maxRecDepth 100000 in
set_option maxHeartbeats 8000000 in
theorem sn_plant (A : Option Addr) (n c : Nat) (H : List Pq) (w : World) (hn : n = H.length) (hr : RdG 2 ptL w w.heap.size A H) (hN : n ≤ 100000000) :
    Calls Tryz.prog 37 #[.slice A n c] w fun e w' => PlantP w n H e w' := by
  have HN := Lib.hid hn; have HC := Lib.hid (sn_clone A n c H w hn hr hN)
  clear hn hr
  go_enter Tryz.func37, Tryz.ntmps37
  go_upto_region 2 with (go_at_call 67; (with_reducible refine HC.out.mono ?_); rintro e w1 ⟨v, rfl, hO1, hS1⟩; obtain ⟨A1, c1, hv, _, _⟩ := OwnG.rd (by omega) ptL_len hO1; rw [← HN.out] at hv; subst hv)
  refine wp_named fun w2 hw2 => ?_
  have hT2 : TwoAt w2 w1.heap.size 126 (.slice A1 n c1) (.slice none 0 0) := by subst hw2; exact TwoAt.new w1 _ rfl _ _ _
  have hO2 : OwnG 23 2 ptL w2 w.heap.size (.slice A1 n c1) H := by subst hw2; exact hO1.alloc _
  have hS2 : Since w w2 := by subst hw2; exact hS1.alloc _
  have hb1 := hS1.below.size
  clear hw2 hO1 hS1 HC
  generalize w1.heap.size = bt at *
  have t0 := hT2.c0
  go_upto_region 3 with (go_at_call 57; (with_reducible refine (sn_sortm w w2 w.heap.size _ H hS2 (Nat.le_refl _) hO2 (by have := HN.out; omega)).mono ?_); rintro e w3 ⟨⟨u3, rfl⟩, P, hp, hO3, hS3, hz3, hk3⟩)
  have hT3 := hT2.keep (hk3 bt hT2.lt (fun e => own_ne2 hO2 hT2 (by decide) e.symm))
  have hPl : P.length = n := by rw [hp.length_eq, HN.out]
  clear t0 hk3 hz3 hT2 hO2 hS2
  have t0 := hT3.c0
  have hs3 := hS3.below.size
  go_upto_region 4 with (at_make; refine wpList_make_g (enc := bxE) (k := 4) (by rfl) _ _ _ 130 (by rfl) (by omega) bxE_len 32 bx0 Tryz.underlying128 infoBx2 n (by rfl) (by rfl) (by omega) (by simp only [maxLen]; omega) w.heap.size hs3 ?_; intro w4 hO4 hg4)
  have hS34 : Since w3 w4 := since_grown (Since.refl _) hg4 (fun k hk => by cases hk)
  have hR3 := (own_rd (by omega) ptL_len hO3).1
  have hT4 := hT3.since hS34
  have hS4 := hS3.trans hS34
  have hT3l := hT3.lt
  have HS34 := Lib.hid hS34; have HR3 := Lib.hid hR3; have HPL := Lib.hid hPl; have HP := Lib.hid hp; have HO3 := Lib.hid hO3; have HT3 := Lib.hid hT3; have HS3 := Lib.hid hS3; have HT4 := Lib.hid hT4
  clear hS34 hR3 hPl hp hO3 hT3 hS3 hg4 t0
  have t0 := hT4.c0
  clear hT4
  generalize hq : w3.heap.size = q at *
  have HQ := Lib.hid hq
  clear hq
  have hbq : bt ≠ q := by omega
  go_wp2
  go_loopw [27] (fun y wr => ∃ j : Nat, j ≤ n ∧ y = .int .i64 (j : Int) ∧ OwnG 130 4 bxE wr w.heap.size (.slice (some ⟨q, 0, none⟩) n n) ((P.take j).map ptB ++ List.replicate (n - j) bx0) ∧ KeepBut q w4 wr ∧ Since w wr) (fun y _ => n - (intOf y).toNat)
  case atStart => exact ⟨0, by omega, rfl, by simpa using hO4, KeepBut.refl _ _, hS4⟩
  case round =>
    obtain ⟨j, hj, rfl, hO, hK, hS⟩ := hrel
    by_cases hjn : j < n
    · have hjn' : (j : Int) < n := by omega
      have hPl := HPL.out
      have hQ := HQ.out
      obtain ⟨b, o, rfl, hb, hcell⟩ := HR3.out (by omega)
      obtain ⟨s, hs⟩ : ∃ s, P[j]? = some s := ⟨_, List.getElem?_eq_getElem (by omega)⟩
      have hbq2 : b ≠ q := by omega
      have hb3 : b < w3.heap.size := by rw [hQ]; exact hb
      have hb4 : b < w4.heap.size := HS34.out.2.2.1 _ hb3
      have c1 := hK.cell ((HS34.out.1 _ _ hb3).trans (hcell j _ hs 0 (by omega))) hb4 hbq2
      have c2 := hK.cell ((HS34.out.1 _ _ hb3).trans (hcell j _ hs 1 (by omega))) hb4 hbq2
      simp only [ptL, List.getD_cons_succ, List.getD_cons_zero, Nat.add_zero] at c1 c2
      have hbr : b < wr.heap.size := Nat.lt_of_lt_of_le hb4 hK.1
      have hj0 : (0 : Int) ≤ j := by omega
      have HT := Lib.hid (ptb_step hs hjn)
      clear hcell hs hPl hQ
      go_upto_region 7 with fail
      refine wp_named fun wa hwa => ?_
      have hTa : Since wr wa := by subst hwa; exact (Since.refl _).alloc _
      have hPa : PtAt wa wr.heap.size s.x s.y := by subst hwa; exact pt_new wr _ rfl _ _ _
      have hOa := hO.since hTa
      have hKa := hK.since hTa
      have hSa := hS.trans hTa
      obtain ⟨p1, p2, p3⟩ := hPa
      obtain ⟨o1, o2⟩ := own_cells (by omega) bxE_len hOa (ptb_at hjn (by have := HPL.out; omega))
      have k0 := o1 0 (by omega)
      have k1 := o1 1 (by omega)
      have k2 := o1 2 (by omega)
      have k3 := o1 3 (by omega)
      simp only [bxE, List.getD_cons_succ, List.getD_cons_zero, Nat.add_zero] at k0 k1 k2 k3
      have f0 := o2 (j * 4)
      have f1 := o2 (j * 4 + 1)
      have f2 := o2 (j * 4 + 2)
      have f3 := o2 (j * 4 + 3)
      have hll : j < ((P.take j).map ptB ++ List.replicate (n - j) bx0).length := by have := HPL.out; simp; omega
      have HO7 := Lib.hid (OwnBx.put hOa j (ptB s) hll)
      have hqr : w.heap.size ≤ q := hs3
      clear hwa hTa c1 c2 hO hK hS o1 o2 hOa
      generalize wr.heap.size = bp at *
      go_wp2
      go_roundw
      case rel => exact ⟨j + 1, by omega, by go_num, by rw [← HT.out]; exact HO7.out, (((hKa.set _ _).set _ _).set _ _).set _ _, (((hSa.setCell (p := ⟨q, _, none⟩) hqr _).setCell (p := ⟨q, _, none⟩) hqr _).setCell (p := ⟨q, _, none⟩) hqr _).setCell (p := ⟨q, _, none⟩) hqr _⟩
      case measure => (simp only [intOf]; omega)
    · obtain rfl : j = n := by omega
      have hjn' : ¬ (j : Int) < j := by omega
      have hPl := HPL.out
      have hcur : (P.take j).map ptB ++ List.replicate (j - j) bx0 = P.map ptB := by rw [Nat.sub_self, List.take_of_length_le (by omega)]; simp
      rw [hcur] at hO
      have hP3 : OwnG 23 2 ptL wr w.heap.size (.slice A1 j c1) P := by
        have h4 := HO3.out.since HS34.out
        exact h4.but hK (fun e => by have := (HO3.out.lt e).2; have := HQ.out; omega)
      have hTr := HT4.out.but hK hbq
      have h0 : PlI w bt j c1 A1 P (.slice (some ⟨q, 0, none⟩) j j) wr := ⟨0, _, _, [], ⟨by rw [if_pos rfl], by simp; omega, rfl, hP3, hO, hTr, OwnG.nil _ _ _ _ _, fun k x hx => by simp at hx, hS, hb1⟩⟩
      clear hcur hO hP3 hTr hK hS hPl hO4
      go_wp2
      go_loopw [4] (fun lv wx => PlI w bt j c1 A1 P lv wx) (fun lv _ => lenOf lv)
      case atStart => exact h0
      case round =>
        obtain ⟨m, cur, vl, hs, h⟩ := hrel
        obtain ⟨N, hN⟩ : ∃ N, N = cur.length := ⟨_, rfl⟩
        by_cases h1 : 1 < cur.length
        · obtain ⟨g, cg, hv, hgc⟩ := own_some h.oC (by omega)
          rw [← hN] at hv hgc
          subst hv
          have hN1 : 1 < N := by omega
          have hN2 : (1 : Int) < N := by omega
          have hNn : N ≤ 100000000 := by have := h.few; omega
          have hNN := Lib.hid hN
          have hR := (own_rd (by omega) bxE_len h.oC).1
          have hG := sn_grouped g 0 N cg cur wr hN hR hN1 hNn hgc
          have HG := Lib.hid hG; have HH := Lib.hid h; have H1 := Lib.hid h1
          have t1 := h.tT.c1
          have t2 := h.tT.lt
          clear hN hR hG h h1 h0 t0
          go_upto_region 11 with (go_at_call 70; (with_reducible refine HG.out.mono ?_); rintro e w5 ⟨v5, rfl, hO5, hS5⟩; obtain ⟨A5, c5, hv5, _, _⟩ := OwnG.rd (by omega) bxE_len hO5; obtain ⟨n5, hn5⟩ : ∃ n5, n5 = (grp cur).length := ⟨_, rfl⟩; rw [← hn5] at hv5; subst hv5; have hN5 := Lib.hid hn5; clear hn5)
          have t3 := (hS5.1 _ 1 t2).trans t1
          have t4 := hS5.2.2.1 _ t2
          have hz5 := HH.out.sn.below.size
          have hz6 := hS5.below.size
          have hll := HH.out.len
          have hfw := HH.out.few
          clear t1
          go_wp2_with (at_builtin; refine wpList_append_g (by rfl) _ _ 124 128 (by rfl) (by omega) hdL_len hdL_one 24 Tryz.underlying124 infoLv w.heap.size _ hs (by rfl) (OwnG.alloc (HH.out.oL.since hS5) _) _ _ 1 [⟨A5, n5, c5⟩] (by rfl) (hd_one w5 _ rfl _ ⟨A5, n5, c5⟩) (by simp only [List.length_cons, List.length_nil]; omega) (by simp only [List.length_cons, List.length_nil, maxLen]; omega) (by simp; omega) ?_; intro v7 w7 hO7 hg7 hb7; obtain ⟨A7, c7, hv7, _, _⟩ := OwnG.rd (by omega) hdL_len hO7; obtain ⟨n7, hn7⟩ : ∃ n7, n7 = (hs ++ [(⟨A5, n5, c5⟩ : Hd)]).length := ⟨_, rfl⟩; rw [← hn7] at hv7; subst hv7; have hN7 := Lib.hid hn7; clear hn7; obtain ⟨u7, u8⟩ := pl_step HH.out H1.out hS5 hO5 hO7 hg7; have z1 := u7.c1; have z2 := u7.fz 1; have HU := Lib.hid u8; clear u7 u8 hO7 hg7 hb7)
          go_roundw
          case rel => exact ⟨_, _, _, _, HU.out⟩
          case measure => (simp only [lenOf]; have := hN5.out; have := grp_len cur; have := hNN.out; omega)
        · obtain ⟨A4, c4, hv, _, _⟩ := OwnG.rd (by omega) bxE_len h.oC
          rw [← hN] at hv
          subst hv
          have hN2 : ¬ (1 : Int) < N := by omega
          obtain ⟨r1, r2, r3⟩ := pl_done h (by omega) HPL.out
          have hsn := h.sn
          clear h h0 hN
          go_wp2
          go_ret
          exact ⟨bt, P, m, rfl, HP.out, r1, r2, r3, hsn⟩
end Go.Proofs.YtcfghkphkmoikaaGreat
