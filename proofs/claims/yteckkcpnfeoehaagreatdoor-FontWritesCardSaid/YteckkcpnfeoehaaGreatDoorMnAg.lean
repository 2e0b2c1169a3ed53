/-
  Texts of this seat, put together: each with its own head.
-/
import Derived.Test.YteckkcpnfeoehaaGreatDoorMnAf
import Derived.Test.YteckkcpnfeoehaaGreatDoorMnAe
import Derived.Deep.RegionLaw
import Derived.Deep.QuietTactic
import Derived.BigQuiet
import Derived.Test.YteckkcpnfeoehaaGreatDoorMnAc
import Derived.Deep.LoopGhost

/-
  Rows that a call has made and fills in place: 'make', and stores into them.
-/
namespace Go.Proofs.YteckkcpnfeoehaaGreatDoor
set_option maxRecDepth 100000
open Go.RowKit Go.ChangeShapes Go.WideShapes Go.Deep
set_option linter.unusedVariables false

theorem OwnG.but {α : Type} {enc : α → List Value} {t : TypeId} {k base q : Nat} {w w' : World} {v : Value} {L : List α} (h : OwnG t k enc w base v L) (hk : KeepBut q w w') (hq : v.ownBlock ≠ some q) : OwnG t k enc w' base v L := by
  refine ⟨h.1, ?_⟩
  rcases h.2 with h0 | ⟨g, cap, cur, rfl, hb, hh, r⟩
  · exact .inl h0
  · refine .inr ⟨g, cap, cur, rfl, hb, ?_, r⟩
    have hlt : g < w.heap.size := by
      rcases Nat.lt_or_ge g w.heap.size with hlt | hge
      · exact hlt
      · rw [Array.getElem?_eq_none hge] at hh; cases hh
    rw [hk.2 g hlt (fun e => hq (by rw [← e]; rfl))]; exact hh
section
variable {α : Type} {k : Nat} {enc : α → List Value} {P : Program}
theorem made_cells (hk0 : 0 < k) (hk : ∀ a, (enc a).length = k) (z0 : α) (z : Array Value) (hz : z.toList = enc z0) (n : Nat) : (madeCells z (n * k)).toList = cellsG enc (List.replicate n z0) := by
  have hzs : z.size = k := by rw [← Array.length_toList, hz, hk]
  apply List.ext_getElem?
  intro j
  by_cases hj : j < n * k
  · have hjk : j / k < n := by rw [Nat.div_lt_iff_lt_mul hk0]; exact hj
    have hm := Nat.mod_lt j hk0
    have h1 := cellsG_get hk (List.replicate n z0) (j / k) z0 (by simp [hjk]) (j % k) hm
    rw [Nat.div_add_mod' j k] at h1
    rw [h1, ← hz]
    have h2 : j % k < z.size := by omega
    simp [madeCells, hj, hzs]
    rw [getElem!_pos z _ h2, getElem?_pos z _ h2]
  · rw [List.getElem?_eq_none (by simp [madeCells]; omega), List.getElem?_eq_none (by rw [cellsG_len hk]; simp; omega)]
/-- make([]T, n): an own row of zero values. -/
theorem wpList_make_g {w : World} {ops : Array Oper} {rest : List Oper} {o : Oper} {a : Act} {Q : Exit → Act → World → Prop}
    (hg : o.guard = none) (l c : Operand) (t e : TypeId) (hop : o.op = Op.makeSlice t l c) (hk0 : 0 < k) (hk : ∀ a, (enc a).length = k) (bytes : Nat) (z0 : α)
    (ht : P.underlying t = some (.slice e)) (hinfo : ∃ i z, P.info? e = some i ∧ i.zero = some z ∧ i.size = k ∧ i.bytes = bytes ∧ z.cells.toList = enc z0)
    (n : Nat) (hl : a.eval l = .int .i64 (n : Int)) (hc : a.eval c = .int .i64 (n : Int)) (b2 : bytes * n ≤ 281474976710656) (b3 : n ≤ maxLen)
    (base : Nat) (hbase : base ≤ w.heap.size)
    (hK : ∀ w', OwnG e k enc w' base (.slice (some ⟨w.heap.size, 0, none⟩) n n) (List.replicate n z0) → w.grownBy w' none → wpList P ops Q rest (a.put o.dst (.slice (some ⟨w.heap.size, 0, none⟩) n n)) w') :
    wpList P ops Q (o :: rest) a w := by
  obtain ⟨i, z, hi, hz, hsz, hby, hzc⟩ := hinfo
  refine wpList_make_full w hg l c t hop base e i z k ht hi hz hsz .i64 .i64 (n : Int) (n : Int) n hl hc rfl rfl (by rw [hby]; exact b2) b3 hbase (fun w' hown hgr => hK w' ?_ hgr)
  rw [made_cells hk0 hk z0 z.cells hzc] at hown
  unfold OwnG
  rw [List.length_replicate]
  exact hown
end
end Go.Proofs.YteckkcpnfeoehaaGreatDoor

/-
  Lists of tables: as they read, and as a call has made them.
-/
namespace Go.Proofs.YteckkcpnfeoehaaGreatDoor
set_option maxRecDepth 100000
open Go.RowKit Go.ChangeShapes Go.WideShapes Go.Deep
set_option linter.unusedVariables false
set_option linter.unusedSimpArgs false

/-- A table. -/
structure Tb where
  (tag : ByteArray) (data : List Int)
/-- A table's cells. -/
structure Th where
  (tag : ByteArray) (A : Option Addr) (n c : Nat)
def thL (h : Th) : List Value := [.string h.tag, .slice h.A h.n h.c]
theorem thL_len (h : Th) : (thL h).length = 2 := rfl
theorem thL_one (h : Th) : ∀ u ∈ thL h, u.oneCell' = true := by
  intro u hu
  simp only [thL, List.mem_cons, List.not_mem_nil, or_false] at hu
  rcases hu with rfl | rfl <;> rfl
theorem infoTb0 : (Tryz.prog.info? 49).map (fun i => (i.zero, i.size, i.bytes)) = some (some (.agg #[.string ByteArray.empty, .slice none 0 0]), 2, 40) := by kernel_rfl
theorem infoTb : ∃ i z, Tryz.prog.info? 49 = some i ∧ i.zero = some z ∧ i.size = 2 ∧ i.bytes = 40 ∧ z.cells.size = 2 := by
  obtain ⟨i0, hi, hz0, hz1, hz2⟩ := info_parts infoTb0
  exact ⟨i0, _, hi, hz0, hz1, hz2, rfl⟩
/-- Tables as they read, in blocks below B. -/
def RdTL (w : World) (B : Nat) (A : Option Addr) (TT : List Tb) : Prop :=
  ∃ hs : List Th, hs.length = TT.length ∧ RdG 2 thL w B A hs ∧ ∀ (j : Nat) h T, hs[j]? = some h → TT[j]? = some T → h.tag = T.tag ∧ h.n = T.data.length ∧ RdB w B h.A T.data
section
variable {w w' : World} {B B' : Nat} {A : Option Addr} {TT : List Tb}
theorem RdTL.keep (h : RdTL w B A TT) (hk : ∀ b o, b < B → w'.cell? ⟨b, o, none⟩ = w.cell? ⟨b, o, none⟩) : RdTL w' B A TT := by
  obtain ⟨hs, hl, hr, hK⟩ := h
  exact ⟨hs, hl, hr.keep hk, fun j x T h1 h2 => ⟨(hK j x T h1 h2).1, (hK j x T h1 h2).2.1, (hK j x T h1 h2).2.2.keep hk⟩⟩
theorem RdTL.more (h : RdTL w B A TT) (hB : B ≤ B') : RdTL w B' A TT := by
  obtain ⟨hs, hl, hr, hK⟩ := h
  exact ⟨hs, hl, hr.more hB, fun j x T h1 h2 => ⟨(hK j x T h1 h2).1, (hK j x T h1 h2).2.1, (hK j x T h1 h2).2.2.more hB⟩⟩
theorem RdTL.on (h : RdTL w w.heap.size A TT) (k : Since w w') : RdTL w' w'.heap.size A TT := (h.keep fun b o hb => k.1 b o hb).more k.below.size
theorem RdTL.nil : RdTL w B A [] := ⟨[], rfl, RdG.nil, fun j h T h1 h2 => by simp at h1⟩
/-- One table's cells. -/
theorem RdTL.row (h : RdTL w B A TT) {j : Nat} {T : Tb} (hj : TT[j]? = some T) : ∃ b o A' c', A = some ⟨b, o, none⟩ ∧ b < B ∧ w.cell? ⟨b, o + j * 2, none⟩ = some (.string T.tag) ∧ w.cell? ⟨b, o + j * 2 + 1, none⟩ = some (.slice A' T.data.length c') ∧ RdB w B A' T.data := by
  obtain ⟨hs, hl, hr, hK⟩ := h
  have hjl : j < hs.length := by
    rw [hl]
    rcases Nat.lt_or_ge j TT.length with h | h
    · exact h
    · rw [List.getElem?_eq_none h] at hj; cases hj
  obtain ⟨b, o, rfl, hb, hc⟩ := hr (by omega)
  have h1 : hs[j]? = some hs[j] := List.getElem?_eq_getElem hjl
  obtain ⟨e1, e2, h2⟩ := hK j _ T h1 hj
  have h3 := hc j _ h1 0 (by omega)
  have h4 := hc j _ h1 1 (by omega)
  rw [Nat.add_zero] at h3
  refine ⟨b, o, hs[j].A, hs[j].c, rfl, hb, by rw [h3, ← e1]; rfl, by rw [h4, ← e2]; rfl, h2⟩
end
/-- Tables that a call has made. -/
def OwnT (w : World) (base : Nat) (v : Value) (TT : List Tb) : Prop :=
  ∃ hs : List Th, hs.length = TT.length ∧ OwnG 49 2 thL w base v hs ∧ ∀ (j : Nat) h T, hs[j]? = some h → TT[j]? = some T → h.tag = T.tag ∧ OwnB w base (.slice h.A h.n h.c) T.data
section
variable {w w' : World} {base : Nat} {v : Value} {TT : List Tb}
theorem OwnT.nil (w : World) (base : Nat) : OwnT w base (.slice none 0 0) [] := ⟨[], rfl, OwnG.nil _ _ _ _ _, fun j h T h1 h2 => by simp at h1⟩
theorem OwnT.since (h : OwnT w base v TT) (k : Since w w') : OwnT w' base v TT := by
  obtain ⟨hs, hl, ho, hK⟩ := h
  exact ⟨hs, hl, ho.since k, fun j x T h1 h2 => ⟨(hK j x T h1 h2).1, (hK j x T h1 h2).2.since k⟩⟩
theorem OwnT.low {base' : Nat} (h : OwnT w base v TT) (hb : base' ≤ base) : OwnT w base' v TT := by
  obtain ⟨hs, hl, ho, hK⟩ := h
  exact ⟨hs, hl, ho.low hb, fun j x T h1 h2 => ⟨(hK j x T h1 h2).1, (hK j x T h1 h2).2.low hb⟩⟩
theorem OwnT.keepB (h : OwnT w base v TT) (hk : ∀ b, base ≤ b → b < w.heap.size → w'.heap[b]? = w.heap[b]?) : OwnT w' base v TT := by
  obtain ⟨hs, hl, ho, hK⟩ := h
  exact ⟨hs, hl, ho.keep hk, fun j x T h1 h2 => ⟨(hK j x T h1 h2).1, (hK j x T h1 h2).2.keep hk⟩⟩
theorem OwnT.rd (h : OwnT w base v TT) : ∃ A c, v = .slice A TT.length c ∧ TT.length ≤ c ∧ RdTL w w.heap.size A TT := by
  obtain ⟨hs, hl, ho, hK⟩ := h
  obtain ⟨A, c, rfl, hc, hr⟩ := ho.rd (by omega) thL_len
  rw [hl] at hc ⊢
  refine ⟨A, c, rfl, hc, hs, hl, hr, fun j x T h1 h2 => ?_⟩
  obtain ⟨A', c', e, hc', hr'⟩ := (hK j x T h1 h2).2.rd (by omega) byL_len
  injection e with e1 e2 e3
  exact ⟨(hK j x T h1 h2).1, e2, by rw [e1]; exact hr'⟩
end
theorem tb_one {w : World} (b : Nat) (hb : b = w.heap.size) (ty : TypeId) (h : Th) : RdG 2 thL (w.alloc (.cells #[.string h.tag, .slice h.A h.n h.c] ty)) (w.alloc (.cells #[.string h.tag, .slice h.A h.n h.c] ty)).heap.size (some ⟨b, 0, none⟩) [h] :=
  rdG_one hb h (fun i hi => by
    have h : i = 0 ∨ i = 1 := by omega
    rcases h with rfl | rfl <;> rfl)
/-- .. with a table more, behind an append. -/
theorem OwnT.snoc {w w' : World} {base : Nat} {v v' : Value} {TT : List Tb} {s : ByteArray} {A' : Option Addr} {n' c' : Nat} {L : List Int} (hrow : OwnB w base (.slice A' n' c') L) {hs : List Th} (hl : hs.length = TT.length)
    (ho : OwnG 49 2 thL w base v hs) (hK : ∀ (j : Nat) h T, hs[j]? = some h → TT[j]? = some T → h.tag = T.tag ∧ OwnB w base (.slice h.A h.n h.c) T.data)
    (h9 : OwnG 49 2 thL w' base v' (hs ++ [⟨s, A', n', c'⟩])) (hg : w.grownBy w' v.ownBlock) : OwnT w' base v' (TT ++ [⟨s, L⟩]) := by
  have hne : 49 ≠ 5 := by decide
  refine ⟨hs ++ [⟨s, A', n', c'⟩], by simp [hl], h9, fun j x M h1 h2 => ?_⟩
  by_cases hj : j < hs.length
  · rw [List.getElem?_append_left hj] at h1
    rw [List.getElem?_append_left (by omega)] at h2
    obtain ⟨e, hk⟩ := hK j x M h1 h2
    exact ⟨e, OwnG.grown hk hg (fun q hq e => own_apart ho hk hne e hq)⟩
  · rw [List.getElem?_append_right (by omega)] at h1
    rw [List.getElem?_append_right (by omega)] at h2
    have e : j - hs.length = 0 := by
      rcases Nat.eq_zero_or_pos (j - hs.length) with h | h
      · exact h
      · rw [List.getElem?_eq_none (by simp; omega)] at h1; cases h1
    rw [e] at h1
    rw [← hl, e] at h2
    simp only [List.getElem?_cons_zero, Option.some.injEq] at h1 h2
    subst h1 h2
    exact ⟨rfl, OwnG.grown hrow hg (fun q hq e => own_apart ho hrow hne e hq)⟩
/-- append of one table, just built, in a region that draws its order. -/
theorem oper_append_tb {w : World} {o : Oper} {a : Act} {K : Act → World → Prop} {Q : Exit → Act → World → Prop} (s x : Operand)
    (ho : o.op = .call { callee := .builtin .append, args := #[s, x], argTypes := #[22, 22] })
    (base : Nat) (v : Value) (TT : List Tb) (hs : a.eval s = v) (hown : OwnT w base v TT) (b c : Nat) (t : ByteArray) (A' : Option Addr) (n' c' : Nat) (L : List Int) (hx : a.eval x = .slice (some ⟨b, 0, none⟩) 1 c) (ty : TypeId) (hb : b = w.heap.size) (hrow : OwnB w base (.slice A' n' c') L) (hL : TT.length ≤ 1000000) (hbase : base ≤ w.heap.size)
    (h : ∀ v' w', OwnT w' base v' (TT ++ [⟨t, L⟩]) → (w.alloc (.cells #[.string t, .slice A' n' c'] ty)).grownBy w' v.ownBlock → (∀ q, v.ownBlock = some q → base ≤ q ∧ q < w.heap.size) → K (a.put o.dst v') w') :
    Oper.wp Tryz.prog o a (w.alloc (.cells #[.string t, .slice A' n' c'] ty)) K Q := by
  obtain ⟨hh, hl, ho', hK⟩ := hown
  refine oper_append_g s x 22 49 ho (by omega) thL_len thL_one 40 Tryz.underlying22 infoTb base v hh hs (ho'.alloc _) _ _ 1 c [⟨t, A', n', c'⟩] rfl hx (tb_one b hb ty ⟨t, A', n', c'⟩) (by simp only [List.length_cons, List.length_nil]; omega) (by simp only [List.length_cons, List.length_nil, maxLen]; omega) (by simp; omega) (fun v' w' h9 hg hq => h v' w' ?_ hg (fun q e => ho'.lt e))
  exact OwnT.snoc (w := w.alloc (.cells #[.string t, .slice A' n' c'] ty)) (hrow.alloc _) hl (ho'.alloc _) (fun j x M h1 h2 => ⟨(hK j x M h1 h2).1, (hK j x M h1 h2).2.alloc _⟩) h9 hg
/-- A table in a box. -/
theorem two_tb {w w' : World} {s : ByteArray} {A : Option Addr} {n c : Nat} {t : TypeId} (h : Since (w.alloc (.cells #[.string s, .slice A n c] t)) w') : w'.cell? ⟨w.heap.size, 0, none⟩ = some (.string s) ∧ w'.cell? ⟨w.heap.size, 1, none⟩ = some (.slice A n c) ∧ w.heap.size < w'.heap.size := by
  have h0 : w.heap.size < (w.alloc (.cells #[.string s, .slice A n c] t)).heap.size := by simp
  have hr : Row (w.alloc (.cells #[.string s, .slice A n c] t)) w.heap.size 2 (fun j => if j = 0 then .string s else .slice A n c) := Row.of_cells fun j hj => by
    have h : j = 0 ∨ j = 1 := by omega
    rcases h with rfl | rfl <;> rfl
  exact ⟨(h.1 _ _ h0).trans (hr.1 0 (by omega)), (h.1 _ _ h0).trans (hr.1 1 (by omega)), h.2.2.1 _ h0⟩
theorem Since.ofDrew {w w' : World} (h : Since w.drew w') : Since w w' := ((Since.refl w).drew).trans h
theorem two_tbd {w w' : World} {s : ByteArray} {A : Option Addr} {n c : Nat} {t : TypeId} (h : Since (w.alloc (.cells #[.string s, .slice A n c] t)).drew w') : w'.cell? ⟨w.heap.size, 0, none⟩ = some (.string s) ∧ w'.cell? ⟨w.heap.size, 1, none⟩ = some (.slice A n c) ∧ w.heap.size < w'.heap.size := two_tb h.ofDrew
end Go.Proofs.YteckkcpnfeoehaaGreatDoor

/-
  Layer 4: the reference's Copy, Great, Same of tables, walked.
-/
namespace Go.Proofs.YteckkcpnfeoehaaGreatDoor
set_option maxRecDepth 100000
open Go.RowKit Go.ChangeShapes Go.WideShapes Go.Deep
set_option linter.unusedVariables false
set_option linter.unusedSimpArgs false

set_option maxRecDepth 100000 in
set_option maxHeartbeats 8000000 in
theorem rf_copyT (A : Option Addr) (c : Nat) (TT : List Tb) (w : World) (h : RdTL w w.heap.size A TT) (hn : TT.length ≤ 100000) (hm : ∀ T, T ∈ TT → T.data.length ≤ 1000000) :
    Calls Tryz.prog 23 #[.slice A TT.length c] w fun e w' => ∃ A' c', e = .returned (.slice A' TT.length c') ∧ OwnT w' w.heap.size (.slice A' TT.length c') TT ∧ Since w w' := by
  obtain ⟨N, hN⟩ : ∃ N, N = TT.length := ⟨_, rfl⟩
  rw [← hN] at hn ⊢
  have HN := Lib.hid hN
  have HM := Lib.hid hm
  clear hN hm
  go_enter Tryz.func23, Tryz.ntmps23
  go_wp2_with fail
  go_loopw [3, 8] (fun v y wr => ∃ (j : Nat), j ≤ N ∧ y = .int .i64 (j : Int) ∧ OwnT wr w.heap.size v (TT.take j) ∧ Since w wr) (fun _ y _ => N - (intOf y).toNat)
  case atStart => exact ⟨0, by omega, rfl, OwnT.nil _ _, Since.refl _⟩
  case round =>
    obtain ⟨j, hj, rfl, hO, hS⟩ := hrel
    by_cases hjn : j < N
    · have hjn' : (j : Int) < N := by omega
      have hjL : j < TT.length := by rw [← HN.out]; exact hjn
      have hT : TT[j]? = some TT[j] := List.getElem?_eq_getElem hjL
      have hml := HM.out _ (List.mem_of_getElem? hT)
      have HTK := Lib.hid (show TT.take (j + 1) = TT.take j ++ [TT[j]] from List.take_succ_eq_append_getElem hjL)
      have hlt : (TT.take j).length ≤ 1000000 := by rw [List.length_take]; omega
      obtain ⟨b, o, A', c', rfl, hb, hc1, hc2, hK⟩ := h.row hT
      generalize TT[j] = T at *
      obtain ⟨s, L⟩ := T
      simp only at hml hc1 hc2 hK HTK
      have c1 := (hS.1 _ _ hb).trans hc1
      have c2 := (hS.1 _ _ hb).trans hc2
      have hbw := hS.2.2.1 _ hb
      have hK := (hK.since (Nat.le_refl _) hS).more hS.below.size
      have hwz := hS.below.size
      obtain ⟨n, hn0⟩ : ∃ n, n = L.length := ⟨_, rfl⟩
      rw [← hn0] at c2 hml
      have HC := Lib.hid (fun (w2 : World) (h2 : Since wr w2) => copy_l A' n c' L w2 hn0 (hK.on h2) (by omega))
      clear hT h hc1 hc2 hjL hn0
      generalize TT.take j = LJ at *
      go_upto_region 5 with fail
      go_region_law (first | (rw [if_pos (by rfl)]; refine oper_append_tb (.tmp 12) (.tmp 19) (by rfl) w.heap.size _ LJ (by rfl) hO5 _ 1 s (some ⟨g4, 0, none⟩) n c4 L (by rfl) _ rfl hR4 hlt hz4 ?_; intro v7 w7 hO7 hg7 hb7; have hS7 : Since w w7 := since_grown (hS4.alloc _) hg7 (fun q hq => (hb7 q hq).1)) | (go_simp; go_wp2_with (go_at_call 24; (with_reducible refine (HC.out _ (by (repeat (first | with_reducible (exact Since.refl _) | with_reducible assumption | with_reducible (refine Since.drew ?_) | with_reducible (refine Since.drewN ?_ _) | with_reducible (refine Since.alloc ?_ _) | (with_reducible (refine Since.setCell ?_ ?_ _); rotate_left; focus (first | (simp; done) | (simp; omega) | omega)) | (with_reducible (refine Since.trans ?_ (by with_reducible assumption))))))).mono ?_); rintro e w4 ⟨g4, c4, rfl, hc4, hg4, hR4, hB4, hS4a⟩; have hX4 : Since wr w4 := (by (repeat (first | with_reducible (exact Since.refl _) | with_reducible assumption | with_reducible (refine Since.drew ?_) | with_reducible (refine Since.drewN ?_ _) | with_reducible (refine Since.alloc ?_ _) | (with_reducible (refine Since.setCell ?_ ?_ _); rotate_left; focus (first | (simp; done) | (simp; omega) | omega)) | (with_reducible (refine Since.trans ?_ (by with_reducible assumption)))))); have hS4 := hS.trans hX4; have hz4 := hS4.below.size; have hO5 := hO.since hX4; have hR4 := hR4.low (base' := w.heap.size) (by (first | (simp; done) | (simp; omega) | omega)); obtain ⟨q1, q2, q3⟩ := two_tbd hS4a)))
      all_goals go_wp2_with fail
      all_goals go_roundw
      all_goals first | (simp [intOf]; omega) | exact ⟨j + 1, by omega, by first | rfl | go_num | simp, by rw [HTK.out]; exact hO7, hS7⟩
    · obtain rfl : N = j := by omega
      have hjn' : ¬ (N : Int) < (N : Int) := by omega
      have e : TT.take N = TT := by rw [HN.out]; exact List.take_length
      rw [e] at hO
      obtain ⟨A', c', rfl, hc', hr⟩ := hO.rd
      have HOO := Lib.hid hO
      rw [← HN.out]
      clear hO hr e
      go_wp2_with fail
      go_ret
      exact ⟨A', c', rfl, (by have := HOO.out; rw [← HN.out] at this; exact this), hS⟩
/-- How many bytes tables hold. -/
def sumT (TT : List Tb) : Nat := (TT.map (fun T => T.data.length)).sum
theorem sumT_snoc (TT : List Tb) (T : Tb) : sumT (TT ++ [T]) = sumT TT + T.data.length := by unfold sumT; rw [List.map_append, List.sum_append_nat]; simp
/-- Tables that are looked at. -/
def NotGreatT (g : Bool) (TT : List Tb) : Prop := g = false → TT.length ≤ 101 ∧ (∀ T, T ∈ TT → T.data.length ≤ 40000 ∧ T.tag.size ≤ 100) ∧ sumT TT ≤ 100000
def GreatTP (TT : List Tb) (w : World) (e : Ending) (w' : World) : Prop := ∃ g, e = .returned (.bool g) ∧ NotGreatT g TT ∧ Since w w'
set_option maxRecDepth 100000 in
set_option maxHeartbeats 8000000 in
theorem rf_greatT (A : Option Addr) (c : Nat) (TT : List Tb) (w : World) (h : RdTL w w.heap.size A TT) (hn : TT.length ≤ maxLen) (hm : ∀ T, T ∈ TT → T.data.length ≤ maxLen ∧ T.tag.size ≤ maxLen) :
    Calls Tryz.prog 22 #[.slice A TT.length c] w (GreatTP TT w) := by
  obtain ⟨N, hN⟩ : ∃ N, N = TT.length := ⟨_, rfl⟩
  rw [← hN] at hn ⊢
  have hNI : (N : Int) ≤ 9223372036854775807 := by simp only [maxLen] at hn; omega
  have HN := Lib.hid hN
  have HM := Lib.hid hm
  clear hN hm
  go_enter Tryz.func22, Tryz.ntmps22
  go_wp2_with fail
  go_loopw [3, 8] (fun v y wr => ∃ (j : Nat) (s : Nat), j ≤ N ∧ j ≤ 101 ∧ y = .int .i64 (j : Int) ∧ v = .int .i64 (s : Int) ∧ s ≤ j * 40000 ∧ Hid (s = sumT (TT.take j) ∧ ∀ T, T ∈ TT.take j → T.data.length ≤ 40000 ∧ T.tag.size ≤ 100) ∧ Since w wr) (fun _ y _ => N - (intOf y).toNat)
  case atStart => exact ⟨0, 0, by omega, by omega, rfl, rfl, by omega, Lib.hid ⟨rfl, fun T h => by simp at h⟩, Since.refl _⟩
  case round =>
    obtain ⟨j, s, hj, hj1, rfl, rfl, hs, HH, hS⟩ := hrel
    have hsI : (s : Int) ≤ 4040000 := by omega
    by_cases hjn : j < N
    · have hjn' : (j : Int) < N := by omega
      have hjL : j < TT.length := by rw [← HN.out]; exact hjn
      have hT : TT[j]? = some TT[j] := List.getElem?_eq_getElem hjL
      obtain ⟨hml, hms⟩ := HM.out _ (List.mem_of_getElem? hT)
      have HTK := Lib.hid (show TT.take (j + 1) = TT.take j ++ [TT[j]] from List.take_succ_eq_append_getElem hjL)
      obtain ⟨b, o, A', c', rfl, hb, hc1, hc2, hK⟩ := h.row hT
      generalize TT[j] = T at *
      obtain ⟨t, L⟩ := T
      simp only at hml hms hc1 hc2 hK HTK
      have c1 := (hS.1 _ _ hb).trans hc1
      have c2 := (hS.1 _ _ hb).trans hc2
      have hbw := hS.2.2.1 _ hb
      obtain ⟨n, hn0⟩ : ∃ n, n = L.length := ⟨_, rfl⟩
      rw [← hn0] at c2 hml
      have HNL := Lib.hid hn0
      simp only [maxLen] at hml hms
      have hnI : (n : Int) ≤ 9223372036854775807 := by omega
      have hzI : (t.size : Int) ≤ 9223372036854775807 := by omega
      clear hT h hc1 hc2 hjL hn0 hK
      by_cases t1 : 100 < j
      · have t1' : (100 : Int) < (j : Int) := by omega
        have d1 : decide ((100 : Int) < (j : Int)) = true := by simpa using t1'
        go_wp2_with fail
        go_ret
        exact ⟨true, rfl, (fun h => Bool.noConfusion h), by (repeat (first | with_reducible (exact Since.refl _) | with_reducible assumption | with_reducible (refine Since.drew ?_) | with_reducible (refine Since.drewN ?_ _) | with_reducible (refine Since.alloc ?_ _) | (with_reducible (refine Since.setCell ?_ ?_ _); rotate_left; focus (first | (simp; done) | (simp; omega) | omega)) | (with_reducible (refine Since.trans ?_ (by with_reducible assumption)))))⟩
      have d1 : decide ((100 : Int) < (j : Int)) = false := by simp; omega
      by_cases t2 : 40000 < n
      · have d2 : decide ((40000 : Int) < (n : Int)) = true := by simp; omega
        go_wp2_with fail
        go_ret
        exact ⟨true, rfl, (fun h => Bool.noConfusion h), by (repeat (first | with_reducible (exact Since.refl _) | with_reducible assumption | with_reducible (refine Since.drew ?_) | with_reducible (refine Since.drewN ?_ _) | with_reducible (refine Since.alloc ?_ _) | (with_reducible (refine Since.setCell ?_ ?_ _); rotate_left; focus (first | (simp; done) | (simp; omega) | omega)) | (with_reducible (refine Since.trans ?_ (by with_reducible assumption)))))⟩
      have d2 : decide ((40000 : Int) < (n : Int)) = false := by simp; omega
      by_cases t3 : 100 < t.size
      · have d3 : decide ((100 : Int) < (t.size : Int)) = true := by simp; omega
        go_wp2_with fail
        go_ret
        exact ⟨true, rfl, (fun h => Bool.noConfusion h), by (repeat (first | with_reducible (exact Since.refl _) | with_reducible assumption | with_reducible (refine Since.drew ?_) | with_reducible (refine Since.drewN ?_ _) | with_reducible (refine Since.alloc ?_ _) | (with_reducible (refine Since.setCell ?_ ?_ _); rotate_left; focus (first | (simp; done) | (simp; omega) | omega)) | (with_reducible (refine Since.trans ?_ (by with_reducible assumption)))))⟩
      have d3 : decide ((100 : Int) < (t.size : Int)) = false := by simp; omega
      have HN2 := Lib.hid (show s + n = sumT (TT.take (j + 1)) ∧ ∀ T, T ∈ TT.take (j + 1) → T.data.length ≤ 40000 ∧ T.tag.size ≤ 100 from ⟨by rw [HTK.out, sumT_snoc, ← HH.out.1, HNL.out], fun T hT => by
        rw [HTK.out] at hT
        rcases List.mem_append.1 hT with h | h
        · exact HH.out.2 T h
        · obtain rfl := List.mem_singleton.1 h
          exact ⟨by have := HNL.out; simp only; omega, by simp only; omega⟩⟩)
      go_wp2_with fail
      go_roundw
      case rel => first | exact ⟨j + 1, s + n, by omega, by omega, by first | rfl | go_num | simp, by first | rfl | go_num | simp, by rw [Nat.succ_mul]; omega, HN2, by (repeat (first | with_reducible (exact Since.refl _) | with_reducible assumption | with_reducible (refine Since.drew ?_) | with_reducible (refine Since.drewN ?_ _) | with_reducible (refine Since.alloc ?_ _) | (with_reducible (refine Since.setCell ?_ ?_ _); rotate_left; focus (first | (simp; done) | (simp; omega) | omega)) | (with_reducible (refine Since.trans ?_ (by with_reducible assumption)))))⟩ | ((repeat apply Exists.intro); refine ⟨?_, rfl⟩; exact ⟨j + 1, s + n, by omega, by omega, by first | rfl | go_num | simp, by first | rfl | go_num | simp, by rw [Nat.succ_mul]; omega, HN2, by (repeat (first | with_reducible (exact Since.refl _) | with_reducible assumption | with_reducible (refine Since.drew ?_) | with_reducible (refine Since.drewN ?_ _) | with_reducible (refine Since.alloc ?_ _) | (with_reducible (refine Since.setCell ?_ ?_ _); rotate_left; focus (first | (simp; done) | (simp; omega) | omega)) | (with_reducible (refine Since.trans ?_ (by with_reducible assumption)))))⟩)
      case measure => simp [intOf]; omega
    · obtain rfl : N = j := by omega
      have hjn' : ¬ (N : Int) < (N : Int) := by omega
      have e : TT.take N = TT := by rw [HN.out]; exact List.take_length
      have HH2 := HH.out
      rw [e] at HH2
      have HF := Lib.hid HH2
      clear HH2 HH e h
      by_cases t4 : 100000 < s
      · have d4 : decide ((100000 : Int) < (s : Int)) = true := by simp; omega
        go_wp2_with fail
        go_ret
        exact ⟨true, by first | rfl | simp, (fun h => Bool.noConfusion h), hS⟩
      · have d4 : decide ((100000 : Int) < (s : Int)) = false := by simp; omega
        go_wp2_with fail
        go_ret
        exact ⟨false, by first | rfl | simp, fun _ => ⟨by rw [← HN.out]; exact hj1, HF.out.2, by rw [← HF.out.1]; omega⟩, hS⟩
set_option maxRecDepth 100000 in
set_option maxHeartbeats 8000000 in
theorem rf_sameT (A B : Option Addr) (c d N M : Nat) (TT : List Tb) (w : World) (h : RdTL w w.heap.size A TT) (h' : RdTL w w.heap.size B TT) (hN : N = TT.length) (hM : M = TT.length) (hn : TT.length ≤ maxLen) :
    Calls Tryz.prog 40 #[.slice A N c, .slice B M d] w fun e w' => e = .returned (.bool true) ∧ Since w w' := by
  have hMN : M = N := by omega
  subst hMN
  have HN := Lib.hid hN
  have hNx : M ≤ maxLen := by omega
  have hNI : (M : Int) ≤ 9223372036854775807 := by simp only [maxLen] at hNx; omega
  clear hM hN hn
  go_enter Tryz.func40, Tryz.ntmps40
  go_wp2_with fail
  go_loopw [13] (fun y wr => ∃ (j k : Nat), j ≤ M ∧ y = .int .i64 (j : Int) ∧ Hid (wr = w.drewN k)) (fun y _ => M - (intOf y).toNat)
  case atStart => exact ⟨0, 0, by omega, rfl, Lib.hid rfl⟩
  case round =>
    obtain ⟨j, k, hj, rfl, hw⟩ := hrel
    by_cases hjn : j < M
    · have hjn' : (j : Int) < M := by omega
      have hjL : j < TT.length := by rw [← HN.out]; exact hjn
      have hT : TT[j]? = some TT[j] := List.getElem?_eq_getElem hjL
      obtain ⟨b, o, A', c', rfl, hb, c1, c2, hK⟩ := h.row hT
      obtain ⟨b2, o2, A2, c3, rfl, hb2, c4, c5, hK2⟩ := h'.row hT
      generalize TT[j] = T at *
      obtain ⟨t, L⟩ := T
      simp only at c1 c2 c4 c5 hK hK2
      have c1 := (show wr.cell? ⟨b, o + j * 2, none⟩ = some (.string t) by rw [hw.out]; exact c1)
      have c2 := (show wr.cell? ⟨b, o + j * 2 + 1, none⟩ = some (.slice A' L.length c') by rw [hw.out]; exact c2)
      have c4 := (show wr.cell? ⟨b2, o2 + j * 2, none⟩ = some (.string t) by rw [hw.out]; exact c4)
      have c5 := (show wr.cell? ⟨b2, o2 + j * 2 + 1, none⟩ = some (.slice A2 L.length c3) by rw [hw.out]; exact c5)
      have hK : RdB wr wr.heap.size A' L := by rw [hw.out]; exact hK
      have hK2 : RdB wr wr.heap.size A2 L := by rw [hw.out]; exact hK2
      obtain ⟨n, hn0⟩ : ∃ n, n = L.length := ⟨_, rfl⟩
      rw [← hn0] at c2 c5
      have HS := Lib.hid (fun (i : Nat) => same_l A' A2 n n c' c3 L L (wr.drewN i) hn0 hn0 hK hK2 rfl)
      have ht : (t.toList == t.toList) = true := by simp
      have ht2 : (t.toList != t.toList) = false := by simp
      clear hT hjL hn0 hK hK2 h h'
      go_wp2_with fail
      go_quiet ((go_at_call 15; exact Calls.quiet_of_same (HS.out _)))
      go_wp2_with fail
      go_roundw
      case rel => first | exact ⟨j + 1, k + nq, by omega, by first | rfl | go_num | simp, Lib.hid (by rw [hw.out]; first | rfl | simp)⟩ | ((repeat apply Exists.intro); refine ⟨?_, rfl⟩; exact ⟨j + 1, k + nq, by omega, by first | rfl | go_num | simp, Lib.hid (by rw [hw.out]; first | rfl | simp)⟩)
      case measure => simp [intOf]; omega
    · obtain rfl : M = j := by omega
      have hjn' : ¬ (M : Int) < (M : Int) := by omega
      go_wp2_with fail
      go_ret
      exact ⟨by first | rfl | simp, by rw [hw.out]; exact (Since.refl w).drewN k⟩
end Go.Proofs.YteckkcpnfeoehaaGreatDoor

/-
  Layer 3: the sums, walked.
-/
namespace Go.Proofs.YteckkcpnfeoehaaGreatDoor
set_option maxRecDepth 100000
open Go.RowKit
set_option linter.unusedVariables false

/-- How much a byte counts by its place in its word. -/
def wgt (j : Nat) : Int := 2 ^ (8 * (3 - j % 4))
/-- A sum gone on with, by the first j bytes. -/
def accu (s : Int) (f : Nat → Int) : Nat → Int
  | 0 => s
  | j + 1 => (accu s f j + f j * wgt j) % 4294967296

theorem accu_range {s : Int} {f : Nat → Int} (hs : 0 ≤ s ∧ s < 4294967296) : ∀ j, 0 ≤ accu s f j ∧ accu s f j < 4294967296
  | 0 => hs
  | j + 1 => by simp only [accu]; omega
theorem wgt_0 (q : Nat) : wgt (4 * q + 0) = 16777216 := by unfold wgt; rw [show (4 * q + 0) % 4 = 0 by omega]; rfl
theorem wgt_1 (q : Nat) : wgt (4 * q + 1) = 65536 := by unfold wgt; rw [show (4 * q + 1) % 4 = 1 by omega]; rfl
theorem wgt_2 (q : Nat) : wgt (4 * q + 2) = 256 := by unfold wgt; rw [show (4 * q + 2) % 4 = 2 by omega]; rfl
theorem wgt_3 (q : Nat) : wgt (4 * q + 3) = 1 := by unfold wgt; rw [show (4 * q + 3) % 4 = 3 by omega]; rfl

set_option maxHeartbeats 4000000 in
theorem ts_more (s : Int) (A : Option Addr) (n c : Nat) (f : Nat → Int) (w : World) (h : Rd w w.heap.size A n (U8 f)) (hf : ∀ j, j < n → 0 ≤ f j ∧ f j ≤ 255) (hs : 0 ≤ s ∧ s < 4294967296) (hn : n ≤ 140737488355328) :
    Calls Tryz.prog 111 #[.int .u32 s, .slice A n c] w fun e w' => e = .returned (.int .u32 (accu s f n)) ∧ w' = w := by
  go_enter Tryz.func111, Tryz.ntmps111
  go_wp2
  go_step3
  go_wp2
  go_step3
  go_wp2
  go_loopg [0, 5] (n / 4 + 1) (fun g x y wr => ∃ q : Nat, q + g = n / 4 + 1 ∧ 4 * q ≤ n ∧ x = .int .u32 (accu s f (4 * q)) ∧ y = .int .i64 (4 * (q : Int)) ∧ wr = w)
  case atStart => exact ⟨0, by omega, by omega, rfl, rfl, rfl⟩
  case round =>
    obtain ⟨q, hq, hqn, rfl, rfl, rfl⟩ := hrel
    obtain ⟨g, rfl⟩ : ∃ g : Nat, g = gk := ⟨_, rfl⟩
    obtain ⟨wo, rfl⟩ : ∃ wo : World, wo = wr := ⟨_, rfl⟩
    go_wp2
    go_loopg [0, 6, 9] 4 (fun g2 x _ y wy => ∃ (i : Nat) (ii : Int), ii = i ∧ i + g2 = 4 ∧ x = .int .u32 (accu s f (4 * q + i)) ∧ 4 * q + i ≤ n ∧ y = .int .i64 ii ∧ wy = wo)
    case atStart => exact ⟨0, 0, rfl, by omega, rfl, by omega, rfl, rfl⟩
    case round =>
      obtain ⟨i, ii, hii, hi, rfl, hin, rfl, rfl⟩ := hrel
      have har := accu_range (f := f) hs (4 * q + i)
      by_cases hlt : i < 4
      · have hlt' : ii < 4 := by omega
        by_cases hend : 4 * q + i = n
        · have he : (4 * (q : Int) + ii == (n : Int)) = true := by simp; omega
          have hE := Lib.hid hend; have HI := Lib.hid hii
          clear hf h hs hend hq
          go_wp2
          try rw [Exit.noGoto_ret]
          go_ret
          exact ⟨by rw [hE.out]; rfl, rfl⟩
        · have hne : (4 * (q : Int) + ii == (n : Int)) = false := by simp; omega
          have hln : 4 * q + i < n := by omega
          have hln' : 4 * (q : Int) + ii < n := by omega
          obtain ⟨b, o, rfl, hb, hc⟩ := h (by omega)
          have hx : wr.cell? ⟨b, o + (4 * q + i), none⟩ = some (.int .u8 (f (4 * q + i))) := hc _ hln
          have hb8 := hf _ hln
          have hst : accu s f (4 * q + i + 1) = (accu s f (4 * q + i) + f (4 * q + i) * wgt (4 * q + i)) % 4294967296 := rfl
          have HS := Lib.hid hst
          generalize hf0 : f (4 * q + i) = v at hx hb8 HS
          generalize haa : accu s f (4 * q + i) = z at har HS
          clear hc hf h hf0 hend hst
          have hi4 : i = 0 ∨ i = 1 ∨ i = 2 ∨ i = 3 := by omega
          rcases hi4 with rfl | rfl | rfl | rfl
          · obtain rfl : ii = 0 := by omega
            rw [Nat.add_zero] at hx
            clear hii
            go_wp2
            go_roundg (gk - 1)
            case measure => omega
            case rel => exact ⟨1, 1, rfl, by omega, by have := HS.out; rw [wgt_0] at this; rw [show 4 * q + 1 = 4 * q + 0 + 1 from rfl, this]; first | done | rfl | rw [Int.mul_one], by omega, rfl, rfl⟩
          · obtain rfl : ii = 1 := by omega
            clear hii
            go_wp2
            go_roundg (gk - 1)
            case measure => omega
            case rel => exact ⟨2, 2, rfl, by omega, by have := HS.out; rw [wgt_1] at this; rw [show 4 * q + 2 = 4 * q + 1 + 1 from rfl, this]; first | done | rfl | rw [Int.mul_one], by omega, rfl, rfl⟩
          · obtain rfl : ii = 2 := by omega
            clear hii
            go_wp2
            go_roundg (gk - 1)
            case measure => omega
            case rel => exact ⟨3, 3, rfl, by omega, by have := HS.out; rw [wgt_2] at this; rw [show 4 * q + 3 = 4 * q + 2 + 1 from rfl, this]; first | done | rfl | rw [Int.mul_one], by omega, rfl, rfl⟩
          · obtain rfl : ii = 3 := by omega
            clear hii
            go_wp2
            go_roundg (gk - 1)
            case measure => omega
            case rel => exact ⟨4, 4, rfl, by omega, by have := HS.out; rw [wgt_3] at this; rw [show 4 * q + 4 = 4 * q + 3 + 1 from rfl, this]; first | done | rfl | rw [Int.mul_one], by omega, rfl, rfl⟩
      · obtain rfl : i = 4 := by omega
        obtain rfl : ii = 4 := by omega
        clear hf h hii
        go_wp2
        go_roundg (g - 1)
        case measure => omega
        case rel => exact ⟨q + 1, by omega, by omega, rfl, by simp; omega, rfl⟩

theorem ts_sum (A : Option Addr) (n c : Nat) (f : Nat → Int) (w : World) (h : Rd w w.heap.size A n (U8 f)) (hf : ∀ j, j < n → 0 ≤ f j ∧ f j ≤ 255) (hn : n ≤ 140737488355328) :
    Calls Tryz.prog 65 #[.slice A n c] w fun e w' => e = .returned (.int .u32 (accu 0 f n)) ∧ w' = w := by
  go_enter Tryz.func65, Tryz.ntmps65
  go_wp2_with (go_at_call 111; refine (ts_more 0 A n c f w h hf (by omega) hn).mono ?_; rintro e w1 ⟨rfl, rfl⟩)
  go_ret
  exact ⟨rfl, rfl⟩
theorem ts_adjust (s : Int) (w : World) (hs : 0 ≤ s ∧ s < 4294967296) :
    Calls Tryz.prog 69 #[.int .u32 s] w fun e w' => e = .returned (.int .u32 ((2981146554 - s) % 4294967296)) ∧ w' = w := by
  go_enter Tryz.func69, Tryz.ntmps69
  go_wp2
  go_ret
  exact ⟨rfl, rfl⟩
theorem ref_adjust (s : Int) (w : World) (hs : 0 ≤ s ∧ s < 4294967296) :
    Calls Tryz.prog 84 #[.int .u32 s] w fun e w' => e = .returned (.int .u32 ((2981146554 - s) % 4294967296)) ∧ w' = w := by
  have hs1 := hs.1
  have hs2 := hs.2
  have he : (7276113850 - s) % 4294967296 = (2981146554 - s) % 4294967296 := by omega
  have HE := Lib.hid he; clear he
  go_enter Tryz.func84, Tryz.ntmps84
  go_wp2
  go_ret
  exact ⟨by rw [← HE.out]; rfl, rfl⟩
/-- A byte moved up so far. -/
def up (v : Int) (e : Nat) : Int := v * 256 ^ e
theorem up_range {v : Int} {e : Nat} (h : 0 ≤ v ∧ v ≤ 255) (he : e ≤ 3) : 0 ≤ up v e ∧ up v e < 4294967296 := by
  have hh : e = 0 ∨ e = 1 ∨ e = 2 ∨ e = 3 := by omega
  unfold up
  rcases hh with rfl | rfl | rfl | rfl <;> simp only [Int.reducePow] <;> omega
theorem up_next (v : Int) (e : Nat) : up v e * 256 = up v (e + 1) := by unfold up; rw [Int.pow_succ, Int.mul_assoc]
theorem up_wgt (v : Int) (j : Nat) : up v (3 - j % 4) = v * wgt j := by
  have hh : j % 4 = 0 ∨ j % 4 = 1 ∨ j % 4 = 2 ∨ j % 4 = 3 := by omega
  unfold up wgt
  rcases hh with h | h | h | h <;> rw [h] <;> rfl

set_option maxHeartbeats 4000000 in
theorem ref_sum (A : Option Addr) (n c : Nat) (f : Nat → Int) (w : World) (h : Rd w w.heap.size A n (U8 f)) (hf : ∀ j, j < n → 0 ≤ f j ∧ f j ≤ 255) (hn : n ≤ 140737488355328) :
    Calls Tryz.prog 80 #[.slice A n c] w fun e w' => e = .returned (.int .u32 (accu 0 f n)) ∧ w' = w := by
  go_enter Tryz.func80, Tryz.ntmps80
  go_wp2
  go_loop [3, 9] (fun x y => ∃ j : Nat, j ≤ n ∧ x = .int .u64 (accu 0 f j) ∧ y = .int .i64 j) (fun _ y => n - (intOf y).toNat)
  case atStart => exact ⟨0, by omega, rfl, rfl⟩
  case round =>
    obtain ⟨j, hj, rfl, rfl⟩ := hrel
    by_cases hjn : j < n
    · have hjn' : (j : Int) < n := by omega
      obtain ⟨b, o, rfl, hb, hc⟩ := h (by omega)
      have hx : w.cell? ⟨b, o + j, none⟩ = some (.int .u8 (f j)) := hc _ hjn
      have hb8 := hf _ hjn
      have har := accu_range (s := 0) (f := f) (by omega) j
      have HS := Lib.hid (show accu 0 f (j + 1) = (accu 0 f j + up (f j) (3 - j % 4)) % 4294967296 by rw [up_wgt]; rfl)
      have h0 : up (f j) 0 = f j := by unfold up; omega
      have hur := fun e (he : e ≤ 3) => up_range (e := e) hb8 he
      generalize f j = v at hx hb8 HS h0 hur
      generalize accu 0 f j = z at har HS
      have HU := Lib.hid hur
      have H0 := Lib.hid h0
      obtain ⟨r, hr⟩ : ∃ r, j % 4 = r := ⟨_, rfl⟩
      rw [hr] at HS
      have hr4 : r < 4 := by omega
      have hri : (j : Int) % 4 = (r : Int) := by omega
      clear hc hf h hur h0 hr
      go_wp2
      go_loop [5, 6] (fun x y => ∃ k : Nat, r ≤ k ∧ k ≤ 3 ∧ x = .int .u64 (up v (k - r)) ∧ y = .int .i64 k) (fun _ y => 3 - (intOf y).toNat)
      case atStart => exact ⟨r, by omega, by omega, by rw [Nat.sub_self, H0.out], rfl⟩
      case round =>
        obtain ⟨k, hk, hk3, rfl, rfl⟩ := hrel
        by_cases hlt : k < 3
        · have hlt' : (k : Int) < 3 := by omega
          have hu1 := HU.out (k - r) (by omega)
          have hn1 := up_next v (k - r)
          have hu2 := HU.out (k - r + 1) (by omega)
          rw [← hn1] at hu2
          have HN := Lib.hid hn1
          generalize up v (k - r) = m at hu1 hu2 HN
          clear hn1
          go_wp2
          go_round
          case rel => exact ⟨k + 1, by omega, by omega, by rw [show k + 1 - r = k - r + 1 by omega, ← HN.out], by go_num⟩
          case measure => simp [intOf]; omega
        · obtain rfl : k = 3 := by omega
          have hu1 := HU.out (3 - r) (by omega)
          generalize up v (3 - r) = m at hu1 HS
          go_wp2
          go_round
          case rel => exact ⟨j + 1, by omega, by rw [HS.out], by go_num⟩
          case measure => simp [intOf]; omega
    · obtain rfl : j = n := by omega
      have har := accu_range (s := 0) (f := f) (by omega) j
      clear hf h
      go_wp2
      go_ret
      exact ⟨rfl, rfl⟩
end Go.Proofs.YteckkcpnfeoehaaGreatDoor
