/-
  Texts of this seat, put together: each with its own head.
-/
import Derived.Test.YteckkcpnfeoehaaGreatDoorFnB

/-
  Layer 9: the data of the tables with some tags (lookUp).
-/
namespace Go.Proofs.YteckkcpnfeoehaaGreatDoor
set_option maxRecDepth 100000
open Go.RowKit Go.ChangeShapes Go.WideShapes Go.Deep
set_option linter.unusedVariables false
set_option linter.unusedSimpArgs false

theorem has_ix (TT : List Tb) (s : ByteArray) : (has9 TT s = false ∧ (∀ T, T ∈ TT → eqT s T = false) ∧ dat9 TT s = []) ∨ (has9 TT s = true ∧ ∃ (j : Nat) (T : Tb), TT[j]? = some T ∧ eqT s T = true ∧ (∀ U, U ∈ TT.take j → eqT s U = false) ∧ dat9 TT s = T.data ∧ ixF (eqT s) 0 TT = (j : Int)) := by
  rcases ixF_cases (eqT s) TT 0 with ⟨h1, h2⟩ | ⟨j, T, h1, h2, h3, h4⟩
  · refine .inl ⟨?_, h2, ?_⟩
    · unfold has9; rw [List.any_eq_false]; intro T hT; rw [h2 T hT]; simp
    · unfold dat9
      rw [List.find?_eq_none.2 (fun T hT => by rw [h2 T hT]; simp)]; rfl
  · have hmem := List.mem_of_getElem? h2
    refine .inr ⟨?_, j, T, h2, h3, h4, ?_, by rw [h1, Nat.zero_add]⟩
    · unfold has9; rw [List.any_eq_true]; exact ⟨T, hmem, h3⟩
    · unfold dat9
      have hf : TT.find? (eqT s) = some T := by
        rw [List.find?_eq_some_iff_append]
        refine ⟨h3, TT.take j, TT.drop (j + 1), ?_, fun U hU => by rw [h4 U hU]; rfl⟩
        have hl : j < TT.length := by
          rcases Nat.lt_or_ge j TT.length with h | h
          · exact h
          · rw [List.getElem?_eq_none h] at h2; cases h2
        have e : TT[j] = T := by rw [List.getElem?_eq_getElem hl] at h2; exact Option.some.inj h2
        rw [← e, List.getElem_cons_drop hl, List.take_append_drop]
      rw [hf]; rfl
theorem dat9_cases {TT : List Tb} {P : List Int → Prop} (h0 : P []) (h : ∀ T, T ∈ TT → P T.data) (s : ByteArray) : P (dat9 TT s) := by
  rcases has_ix TT s with ⟨_, _, e⟩ | ⟨_, j, T, h2, _, _, e, _⟩
  · rw [e]; exact h0
  · rw [e]; exact h T (List.mem_of_getElem? h2)
def SetF (b : Nat) (fe : Int) (w : World) : Prop := w.cell? ⟨b, 0, none⟩ = some (.int .i64 fe) ∧ w.frozen? ⟨b, 0, none⟩ = false ∧ b < w.heap.size
theorem SetF.since {b : Nat} {fe : Int} {w w' : World} (h : SetF b fe w) (k : Since w w') : SetF b fe w' := ⟨(k.1 _ _ h.2.2).trans h.1, (k.2.1 _ _ h.2.2).trans h.2.1, k.2.2.1 _ h.2.2⟩
theorem SetF.grown {b : Nat} {fe : Int} {w w' : World} {row : Option Nat} (h : SetF b fe w) (hg : w.grownBy w' row) (hr : row ≠ some b) : SetF b fe w' := by
  have e := hg.block b h.2.2 (fun x => hr x.symm)
  exact ⟨cell_grown h.1 h.2.2 hg hr, by rw [← h.2.1]; simp only [World.frozen?, e], Nat.lt_of_lt_of_le h.2.2 hg.size⟩
def CellA (b : Nat) (v : Value) (w : World) : Prop := w.cell? ⟨b, 0, none⟩ = some v ∧ b < w.heap.size
theorem CellA.since {b : Nat} {v : Value} {w w' : World} (h : CellA b v w) (k : Since w w') : CellA b v w' := ⟨(k.1 _ _ h.2).trans h.1, k.2.2.1 _ h.2⟩
theorem CellA.nigh {b q : Nat} {v : Value} {w w' : World} (h : CellA b v w) (k : Nigh q w w') (hb : b ≠ q) : CellA b v w' := ⟨k.1.cell h.1 h.2 hb, Nat.lt_of_lt_of_le h.2 k.1.1⟩
theorem CellA.grown {b : Nat} {v : Value} {w w' : World} {row : Option Nat} (h : CellA b v w) (hg : w.grownBy w' row) (hr : row ≠ some b) : CellA b v w' := ⟨cell_grown h.1 h.2 hg hr, Nat.lt_of_lt_of_le h.2 hg.size⟩
/-- What the first error is behind a table that was looked for. -/
def fstE (fe : Int) (h : Bool) : Int := if h = true then fe else if fe = 0 then 8 else fe
def FindP (TT : List Tb) (s : ByteArray) (b1 : Nat) (fe : Int) (w : World) (e : Ending) (w' : World) : Prop :=
  ∃ v, e = .returned v ∧ OwnB w' w.heap.size v (dat9 TT s) ∧ Nigh b1 w w' ∧ SetF b1 (fstE fe (has9 TT s)) w'
theorem findp {TT : List Tb} {s : ByteArray} {b1 : Nat} {fe y : Int} {w w' : World} {v : Value} (hO : OwnB w' w.heap.size v (dat9 TT s)) (hN : Nigh b1 w w') (hy : fstE fe (has9 TT s) = y) (hF : SetF b1 y w') : FindP TT s b1 fe w (.returned v) w' := ⟨v, rfl, hO, hN, by rw [hy]; exact hF⟩
theorem SetF.put {b : Nat} {fe : Int} {w : World} (h : SetF b fe w) (y : Int) : SetF b y (w.setCell ⟨b, 0, none⟩ (.int .i64 y)) :=
  ⟨by rw [cell_set, if_pos ⟨rfl, rfl⟩, h.1]; rfl, (World.frozen?_setCell _ _ _ _).trans h.2.1, by simpa [World.setCell] using h.2.2⟩
set_option maxRecDepth 1000000 in
set_option maxHeartbeats 16000000 in
theorem fn_find (TT : List Tb) (s : ByteArray) (A : Option Addr) (N c b0 b1 : Nat) (fe : Int) (w : World) (hne : b0 ≠ b1) (h0 : w.cell? ⟨b0, 0, none⟩ = some (.slice A N c)) (hb0 : b0 < w.heap.size) (h1 : SetF b1 fe w) (hR : RdTL w w.heap.size A TT) (hL : N = TT.length) (hn : N ≤ maxLen) (hm : ∀ T, T ∈ TT → T.data.length ≤ 140737488355328) :
    Calls Tryz.prog 88 #[.string s, .pointer (some ⟨b0, 0, none⟩), .pointer (some ⟨b1, 0, none⟩)] w (FindP TT s b1 fe w) := by
  obtain ⟨c1, f1, l1⟩ := id h1
  have HF := Lib.hid h1
  rcases has_ix TT s with ⟨hh, hno, hd⟩ | ⟨hh, j, T, hT, heq, hf, hd, _⟩
  · have HC := Lib.hid (sf_find_no s A N c TT w hR hL hn hno)
    have HHd := Lib.hid hd
    have HHh := Lib.hid hh
    by_cases hz : fe = 0
    · subst hz
      clear hR hL hno hd hh hm h1
      go_enter Tryz.func88, Tryz.ntmps88
      go_wp2_with (go_at_call 89; (with_reducible refine HC.out.mono ?_); rintro e w2 ⟨rfl, hS2⟩; have HF2 := HF.out.since hS2; obtain ⟨c2, f2, l2⟩ := id HF2)
      go_ret
      refine findp (y := 8) ?_ (((Nigh.refl b1 w).since hS2).set 0 _) (by unfold fstE; rw [HHh.out]; rfl) (HF2.put 8)
      rw [HHd.out]; exact OwnG.nil _ _ _ _ _
    · have hz2 : (fe == 0) = false := by simpa using hz
      have HZ := Lib.hid hz
      clear hR hL hno hd hh hm h1 hz
      go_enter Tryz.func88, Tryz.ntmps88
      go_wp2_with (go_at_call 89; (with_reducible refine HC.out.mono ?_); rintro e w2 ⟨rfl, hS2⟩; have HF2 := HF.out.since hS2; obtain ⟨c2, f2, l2⟩ := id HF2)
      go_ret
      refine findp (y := fe) ?_ ((Nigh.refl b1 w).since hS2) (by unfold fstE; rw [HHh.out, if_neg (by simp), if_neg HZ.out]) HF2
      rw [HHd.out]; exact OwnG.nil _ _ _ _ _
  · have HC := Lib.hid (sf_find_yes s A N c TT w hR hL hn j T hT heq hf (hm T (List.mem_of_getElem? hT)))
    have HHd := Lib.hid hd
    have HHh := Lib.hid hh
    clear hR hL hd hh hm h1 hT heq hf
    go_enter Tryz.func88, Tryz.ntmps88
    go_wp2_with (go_at_call 89; (with_reducible refine HC.out.mono ?_); rintro e w2 ⟨v2, rfl, hO2, hS2⟩; have HF2 := HF.out.since hS2; obtain ⟨c2, f2, l2⟩ := id HF2)
    go_ret
    refine findp (y := fe) ?_ ((Nigh.refl b1 w).since hS2) (by unfold fstE; rw [HHh.out, if_pos rfl]) HF2
    rw [HHd.out]; exact hO2
def stL (s : ByteArray) : List Value := [.string s]
theorem OwnBL.keepB {w w' : World} {base : Nat} {v : Value} {GG : List (List Int)} (h : OwnBL w base v GG) (hk : ∀ b, base ≤ b → b < w.heap.size → w'.heap[b]? = w.heap[b]?) : OwnBL w' base v GG := by
  obtain ⟨hs, hl, ho, hK⟩ := h
  exact ⟨hs, hl, ho.keep hk, fun j x L h1 h2 => (hK j x L h1 h2).keep hk⟩
theorem OwnBL.low {w : World} {base base' : Nat} {v : Value} {GG : List (List Int)} (h : OwnBL w base v GG) (hb : base' ≤ base) : OwnBL w base' v GG := by
  obtain ⟨hs, hl, ho, hK⟩ := h
  exact ⟨hs, hl, ho.low hb, fun j x L h1 h2 => (hK j x L h1 h2).low hb⟩
def lookE (TT : List Tb) (ss : List ByteArray) : Int := if ss.all (has9 TT) = true then 0 else 8
theorem lookE_snoc (TT : List Tb) (ss : List ByteArray) (s : ByteArray) : lookE TT (ss ++ [s]) = fstE (lookE TT ss) (has9 TT s) := by
  unfold lookE fstE
  rw [List.all_append]
  cases hs : ss.all (has9 TT) <;> cases hh : has9 TT s <;> simp [hh]
def LookP (TT : List Tb) (ss : List ByteArray) (w : World) (e : Ending) (w' : World) : Prop :=
  ∃ A c, e = .returned (.tuple #[.slice A ss.length c, .int .i64 (lookE TT ss)]) ∧ OwnBL w' w.heap.size (.slice A ss.length c) (ss.map (dat9 TT)) ∧ Since w w'
set_option maxRecDepth 1000000 in
set_option maxHeartbeats 16000000 in
theorem fn_look (TT : List Tb) (ss : List ByteArray) (A S : Option Addr) (N c M d : Nat) (w : World) (hR : RdTL w w.heap.size A TT) (hL : N = TT.length) (hn : N ≤ maxLen) (hm : ∀ T, T ∈ TT → T.data.length ≤ 140737488355328) (hS : RdG 1 stL w w.heap.size S ss) (hM : M = ss.length) (hM3 : M ≤ 1000) :
    Calls Tryz.prog 44 #[.slice A N c, .slice S M d] w (LookP TT ss w) := by
  have hmf : ∀ (fn : Fn) (first cap : Array Value) (w : World), (Instr.makeFunc fn first cap).run Tryz.prog w = .ok (.func fn first cap) w := fun _ _ _ _ => rfl
  have HR := Lib.hid hR
  have HSS := Lib.hid hS
  have HM := Lib.hid hM
  have HL := Lib.hid hL
  have HB := Lib.hid (fun (w2 : World) (h2 : Since w w2) => hR.on h2)
  clear hR hS hM hL
  go_enter Tryz.func44, Tryz.ntmps44
  go_upto_block 0 with fail
  refine wp_named fun w1 hw1 => ?_
  have hS1 : Since w w1 := by subst hw1; (repeat (first | with_reducible (exact Since.refl _) | with_reducible assumption | with_reducible (refine Since.drew ?_) | with_reducible (refine Since.drewN ?_ _) | with_reducible (refine Since.alloc ?_ _) | (with_reducible (refine Since.setCell ?_ ?_ _); rotate_left; focus (first | (simp; done) | (simp; omega) | omega)) | (with_reducible (refine Since.trans ?_ (by with_reducible assumption)))))
  have hz1 : w1.heap.size = w.heap.size + 2 := by subst hw1; simp
  have hF1 : SetF (w.heap.size + 1) 0 w1 := by
    subst hw1
    exact ⟨by simp [go_sem], by simp [go_sem], by first | (simp; done) | (simp; omega)⟩
  have hA1 : CellA w.heap.size (.slice A N c) w1 := by
    subst hw1
    exact ⟨by simp [go_sem], by first | (simp; done) | (simp; omega)⟩
  clear hw1
  obtain ⟨b0, hb0⟩ : ∃ b0, b0 = w.heap.size := ⟨_, rfl⟩
  obtain ⟨b1, hb1⟩ : ∃ b1, b1 = w.heap.size + 1 := ⟨_, rfl⟩
  obtain ⟨B2, hB2⟩ : ∃ B2, B2 = w1.heap.size := ⟨_, rfl⟩
  have hlt : b0 ≠ b1 ∧ b0 < B2 ∧ b1 < B2 ∧ w.heap.size ≤ B2 ∧ w.heap.size ≤ b1 := by omega
  have HLT := Lib.hid hlt
  rw [← hb0] at hA1
  rw [← hb1] at hF1
  rw [← hb1, ← hb0]
  have hBw1 : B2 ≤ w1.heap.size := by omega
  clear hb0 hb1 hB2 hlt hz1
  go_cut [8, 14] (fun v y w2 => ∃ A2 c2, v = .slice A2 M c2 ∧ OwnBL w2 B2 (.slice A2 M c2) (ss.map (dat9 TT)) ∧ SetF b1 (lookE TT ss) w2 ∧ Since w w2)
  case first =>
    go_wp2_with fail
    go_loopw [8, 14] (fun v y wr => ∃ k : Nat, k ≤ M ∧ y = .int .i64 (k : Int) ∧ ∃ u, u = v ∧ OwnBL wr B2 u ((ss.take k).map (dat9 TT)) ∧ SetF b1 (lookE TT (ss.take k)) wr ∧ CellA b0 (.slice A N c) wr ∧ B2 ≤ wr.heap.size ∧ Since w wr) (fun _ y _ => M - (intOf y).toNat)
    case atStart => exact ⟨0, by omega, rfl, _, rfl, by simpa using OwnBL.nil _ _, by simpa [lookE] using hF1, hA1, hBw1, hS1⟩
    case round =>
      obtain ⟨k, hk, rfl, u, rfl, hO, hF, hA, hBw, hSr⟩ := hrel
      clear hF1 hA1 hS1 hBw1
      by_cases hkM : k < M
      · have hkI : (k : Int) < M := by omega
        have hkL : k < ss.length := by rw [← HM.out]; exact hkM
        have hsk : ss[k]? = some ss[k] := List.getElem?_eq_getElem hkL
        obtain ⟨b, o, rfl, hb, hc⟩ := (HSS.out.on hSr) (by omega)
        have hck := hc k _ hsk 0 (by omega)
        rw [Nat.mul_one, Nat.add_zero] at hck
        have HT := Lib.hid (show ss.take (k + 1) = ss.take k ++ [ss[k]] from List.take_succ_eq_append_getElem hkL)
        generalize ss[k] = s at *
        simp only [stL, List.getD_cons_zero] at hck
        have HFD := Lib.hid (fn_find TT s A N c b0 b1 (lookE TT (ss.take k)) wr HLT.out.1 hA.1 hA.2 hF (HB.out wr hSr) HL.out hn hm)
        unfold FindP at HFD
        have hGl : ((ss.take k).map (dat9 TT)).length ≤ 1000000 := by simp; omega
        clear hc hsk hkL
        go_wp2_with (first | (go_at_call 88; (with_reducible refine HFD.out.mono ?_); rintro e w4 ⟨v4, rfl, hO4, hN4, hF4⟩; obtain ⟨A4, c4, rfl, _, _⟩ := hO4.rd (by omega) byL_len; have hOL4 := hO.keepB (fun b hb1 hb2 => hN4.1.2 b hb2 (by have := HLT.out; omega))) | (at_builtin; refine wpList_append_bl rfl _ _ rfl (by rfl) hOL4 _ 1 A4 _ c4 _ (by rfl) _ rfl (OwnG.low hO4 hBw) hGl (Nat.le_trans hBw hN4.1.1) ?_; intro v5 w5 hO5 hg5 hq5 hv5))
        have hr1 : u.ownBlock ≠ some b1 := fun e => by have := (hq5 _ e).1; have := HLT.out; omega
        have hr0 : u.ownBlock ≠ some b0 := fun e => by have := (hq5 _ e).1; have := HLT.out; omega
        have hS4 : Since w w4 := hN4.2 w hSr HLT.out.2.2.2.2
        have hF5 := (hF4.since ((Since.refl w4).alloc _)).grown hg5 hr1
        have hA5 := ((hA.nigh hN4 HLT.out.1).since ((Since.refl w4).alloc _)).grown hg5 hr0
        have hS5 : Since w w5 := since_grown (hS4.alloc _) hg5 (fun q hq => Nat.le_trans HLT.out.2.2.2.1 (hq5 q hq).1)
        have hB5 : B2 ≤ w5.heap.size := by
          have h1 := hg5.size
          have h2 := hN4.1.1
          simp at h1
          omega
        go_roundw
        case rel => exact ⟨k + 1, by omega, by go_num, _, rfl, by rw [HT.out, List.map_append]; exact hO5, by rw [HT.out, lookE_snoc]; exact hF5, hA5, hB5, hS5⟩
        case measure => simp [intOf]; omega
      · obtain rfl : k = M := by omega
        have hkI : ¬ (k : Int) < (k : Int) := by omega
        have e1 : ss.take k = ss := by rw [HM.out]; exact List.take_length
        rw [e1] at hO hF
        obtain ⟨A8, c8, rfl, _, _⟩ := hO.rd
        rw [List.length_map, ← HM.out] at hO ⊢
        clear e1
        go_wp2_with fail
        go_meet
        exact ⟨_, _, rfl, hO, hF, hSr⟩
  case rest =>
    obtain ⟨A2, c2, rfl, hO2, hF2, hS2⟩ := hcut
    obtain ⟨k1, k2, k3⟩ := id hF2
    clear hF1 hA1 hS1
    go_wp2_with fail
    go_quiet (fail)
    go_wp2_with fail
    go_ret2
    refine ⟨A2, c2, by rw [← HM.out]; rfl, ?_, by first | exact hS2 | exact hS2.drewN _⟩
    rw [← HM.out]
    exact (OwnBL.low hO2 HLT.out.2.2.2.1).since (by first | exact (Since.refl _).drewN _ | exact Since.refl _)
end Go.Proofs.YteckkcpnfeoehaaGreatDoor

/-
  Layer 9: what the tables head, maxp and hhea tell (fields); agrees.
-/
namespace Go.Proofs.YteckkcpnfeoehaaGreatDoor
set_option maxRecDepth 100000
open Go.RowKit Go.ChangeShapes Go.WideShapes Go.Deep
set_option linter.unusedVariables false
set_option linter.unusedSimpArgs false


theorem fn_head (A : Option Addr) (c : Nat) (L : List Int) (w : World) (hT : TabB w) (h : RdB w w.heap.size A L) (hb : Bytes L) (hn : L.length ≤ 140737488355328) :
    Calls Tryz.prog 99 #[.slice A L.length c] w fun e w' => e = .returned (.tuple #[.agg (hdC (ofL hd9 L)).toArray, .int .i64 (ofL hdE L)]) ∧ Since w w' :=
  hd_head A L.length c (fnL L) w hT (rdb_rd h) (bytes_fn hb) hn


theorem fn_maxp (A : Option Addr) (c : Nat) (L : List Int) (w : World) (hT : Tabs w) (h : RdB w w.heap.size A L) (hb : Bytes L) (hn : L.length ≤ 140737488355328) :
    Calls Tryz.prog 100 #[.slice A L.length c] w fun e w' => e = .returned (.tuple #[.agg (mxC (ofL mx9 L)).toArray, .int .i64 (ofL mxE L)]) ∧ Since w w' :=
  hd_maxp A L.length c (fnL L) w hT (rdb_rd h) (bytes_fn hb) hn

theorem fn_count (A : Option Addr) (c : Nat) (L : List Int) (w : World) (h : RdB w w.heap.size A L) (hb : Bytes L) (hn : L.length ≤ 140737488355328) :
    Calls Tryz.prog 101 #[.slice A L.length c] w fun e w' => e = .returned (.tuple #[.int .i64 (ofL ctN L), .int .i64 (ofL ctE L)]) ∧ Since w w' :=
  hd_count A L.length c (fnL L) w (rdb_rd h) (bytes_fn hb) hn
theorem rf_head9 (A : Option Addr) (c : Nat) (L : List Int) (w : World) (h : RdB w w.heap.size A L) (hb : Bytes L) (hn : L.length ≤ 140737488355328) :
    Calls Tryz.prog 29 #[.slice A L.length c] w fun e w' => e = .returned (.tuple #[.agg (hdC (ofL hd9 L)).toArray, .int .i64 (ofL hdE L)]) ∧ Since w w' :=
  rf_head A L.length c (fnL L) w (rdb_rd h) (bytes_fn hb) hn
theorem rf_maxp9 (A : Option Addr) (c : Nat) (L : List Int) (w : World) (h : RdB w w.heap.size A L) (hb : Bytes L) (hn : L.length ≤ 140737488355328) :
    Calls Tryz.prog 30 #[.slice A L.length c] w fun e w' => e = .returned (.tuple #[.agg (mxC (ofL mx9 L)).toArray, .int .i64 (ofL mxE L)]) ∧ Since w w' :=
  rf_maxp A L.length c (fnL L) w (rdb_rd h) (bytes_fn hb) hn
theorem rf_count9 (A : Option Addr) (c : Nat) (L : List Int) (w : World) (h : RdB w w.heap.size A L) (hb : Bytes L) (hn : L.length ≤ 140737488355328) :
    Calls Tryz.prog 31 #[.slice A L.length c] w fun e w' => e = .returned (.tuple #[.int .i64 (ofL ctN L), .int .i64 (ofL ctE L)]) ∧ Since w w' :=
  rf_count A L.length c (fnL L) w (rdb_rd h) (bytes_fn hb) hn
section
variable {P : Program} {fn : Func} {R : Ending → World → Prop} {a : Act} {w : World}
/-- The end of a function whose results are two structs in memory and two values. -/
theorem ret_agg22 {p q r s ty ty' : Nat} {b b' : Nat} {cs cs' : List Value} {d d' : TypeDesc} {x y : Value} (hf : fn.results = #[.cell p ty, .cell q ty', .tmp r, .tmp s]) (hp : a.tmps.getD p undef = .pointer (some ⟨b, 0, none⟩)) (hq : a.tmps.getD q undef = .pointer (some ⟨b', 0, none⟩)) (hr : a.tmps.getD r undef = x) (hs : a.tmps.getD s undef = y) (hc : BoxL w b cs) (hc' : BoxL w b' cs')
    (hu : P.underlying ty = some d) (hd : d.isRow = true) (hi : (P.info? ty).map (·.size) = some cs.length) (hu' : P.underlying ty' = some d') (hd' : d'.isRow = true) (hi' : (P.info? ty').map (·.size) = some cs'.length) (hdf : a.defers = []) (hR : R (.returned (.tuple #[.agg cs.toArray, .agg cs'.toArray, x, y])) w) : bodyPost P fn R .ret a w := by
  refine bodyPost_ret (v := .tuple #[.agg cs.toArray, .agg cs'.toArray, x, y]) ?_ hdf hR
  simp only [results, hf]
  have hl := run_loadVar_mid (P := P) w b 0 ty cs d hc.1 hu hd hi
  have hl' := run_loadVar_mid (P := P) w b' 0 ty' cs' d' hc'.1 hu' hd' hi'
  have hp' : a.tmps[p]?.getD undef = .pointer (some ⟨b, 0, none⟩) := by simpa using hp
  have hq' : a.tmps[q]?.getD undef = .pointer (some ⟨b', 0, none⟩) := by simpa using hq
  have hr' : a.tmps[r]?.getD undef = x := by simpa using hr
  have hs' : a.tmps[s]?.getD undef = y := by simpa using hs
  simp [hp', hq', hr', hs', asAddr, hl, hl']
end
def zH : Hd9 := ⟨0, 0, 0, 0, 0, false⟩
def zM : Mx9 := ⟨0, 0, 0, 0, 0, 0, 0⟩
theorem infoHd : (Tryz.prog.info? 24).map (·.size) = some 6 := by kernel_rfl
theorem infoMx : (Tryz.prog.info? 26).map (·.size) = some 7 := by kernel_rfl
theorem hdC_ones (h : Hd9) : ∀ v ∈ hdC h, v.oneCell' = true := (by
  intro v hv
  simp only [hdC, List.mem_cons, List.not_mem_nil, or_false] at hv
  rcases hv with rfl | rfl | rfl | rfl | rfl | rfl <;> rfl)
theorem hdC_one (h : Hd9) : (hdC h).toArray.all (·.oneCell') = true := all_oneCell_toArray (hdC_ones h)
theorem mxC_ones (h : Mx9) : ∀ v ∈ mxC h, v.oneCell' = true := (by
  intro v hv
  simp only [mxC, List.mem_cons, List.not_mem_nil, or_false] at hv
  rcases hv with rfl | rfl | rfl | rfl | rfl | rfl | rfl <;> rfl)
theorem mxC_one (h : Mx9) : (mxC h).toArray.all (·.oneCell') = true := all_oneCell_toArray (mxC_ones h)
section
variable {w : World} {b : Nat} {h h' : Hd9} {m m' : Mx9}
theorem BoxL.hd (hB : BoxL w b (hdC h)) (h' : Hd9) : BoxL (w.setCells b 0 (hdC h')) b (hdC h') := hB.setAll rfl
theorem BoxL.mx (hB : BoxL w b (mxC m)) (m' : Mx9) : BoxL (w.setCells b 0 (mxC m')) b (mxC m') := hB.setAll rfl
end
theorem RdBL.ofOwn {w : World} {base n c : Nat} {A : Option Addr} {GG : List (List Int)} (h : OwnBL w base (.slice A n c) GG) : RdBL w w.heap.size A GG := by
  obtain ⟨A', c', e, _, hr⟩ := h.rd
  injection e with e1
  rw [e1]; exact hr
section
variable {ops : Array Oper} {rest : List Oper} {op : Oper} {a : Act} {Q : Exit → Act → World → Prop} {w : World} {b : Nat} {h : Hd9} {m : Mx9}
theorem wp_hd_store (hgd : op.guard = none) (x y : Operand) (ho : op.op = .store 24 x y) (hx : a.eval x = .pointer (some ⟨b, 0, none⟩)) (hB : BoxL w b (hdC h)) (h' : Hd9) (hy : a.eval y = .agg (hdC h').toArray) (hk : ∀ w', BoxL w' b (hdC h') → Nigh b w w' → wpList Tryz.prog ops Q rest (a.put op.dst undef) w') : wpList Tryz.prog ops Q (op :: rest) a w :=
  wpList_store_box hgd _ x y ho hx hB (hdC h') hy rfl infoHd (hdC_one h') hk
theorem wp_mx_store (hgd : op.guard = none) (x y : Operand) (ho : op.op = .store 26 x y) (hx : a.eval x = .pointer (some ⟨b, 0, none⟩)) (hB : BoxL w b (mxC m)) (m' : Mx9) (hy : a.eval y = .agg (mxC m').toArray) (hk : ∀ w', BoxL w' b (mxC m') → Nigh b w w' → wpList Tryz.prog ops Q rest (a.put op.dst undef) w') : wpList Tryz.prog ops Q (op :: rest) a w :=
  wpList_store_box hgd _ x y ho hx hB (mxC m') hy rfl infoMx (mxC_one m') hk
end
/-- Three rows of bytes, cell by cell. -/
theorem rows3 {w : World} {B : Nat} {A : Option Addr} {L0 L1 L2 : List Int} (h : RdBL w B A [L0, L1, L2]) : ∃ b o A0 c0 A1 c1 A2 c2, A = some ⟨b, o, none⟩ ∧ b < B ∧ w.cell? ⟨b, o, none⟩ = some (.slice A0 L0.length c0) ∧ w.cell? ⟨b, o + 1, none⟩ = some (.slice A1 L1.length c1) ∧ w.cell? ⟨b, o + 2, none⟩ = some (.slice A2 L2.length c2) ∧ RdB w B A0 L0 ∧ RdB w B A1 L1 ∧ RdB w B A2 L2 := by
  obtain ⟨b, o, A0, c0, e, hb, h0, _, k0⟩ := h.row (j := 0) (L := L0) rfl
  obtain ⟨b', o', A1, c1, e', _, h1, _, k1⟩ := h.row (j := 1) (L := L1) rfl
  obtain ⟨b'', o'', A2, c2, e'', _, h2, _, k2⟩ := h.row (j := 2) (L := L2) rfl
  subst e
  injection e' with e'
  injection e' with e1 e2
  injection e'' with e''
  injection e'' with e3 e4
  subst e1 e2 e3 e4
  exact ⟨b, o, A0, c0, A1, c1, A2, c2, rfl, hb, h0, h1, h2, k0, k1, k2⟩
theorem OwnBL.nigh {w w' : World} {base q : Nat} {v : Value} {GG : List (List Int)} (h : OwnBL w base v GG) (k : Nigh q w w') (hq : q < base) : OwnBL w' base v GG := h.keepB fun x hx hl => k.1.2 x hl (by omega)
theorem rows3a {w : World} {base b o c : Nat} {L0 L1 L2 : List Int} (h : OwnBL w base (.slice (some ⟨b, o, none⟩) 3 c) [L0, L1, L2]) : ∃ A0 c0 A1 c1 A2 c2, w.cell? ⟨b, o, none⟩ = some (.slice A0 L0.length c0) ∧ w.cell? ⟨b, o + 1, none⟩ = some (.slice A1 L1.length c1) ∧ w.cell? ⟨b, o + 2, none⟩ = some (.slice A2 L2.length c2) ∧ RdB w w.heap.size A0 L0 ∧ RdB w w.heap.size A1 L1 ∧ RdB w w.heap.size A2 L2 := by
  obtain ⟨b', o', A0, c0, A1, c1, A2, c2, e, _, r⟩ := rows3 (RdBL.ofOwn h)
  injection e with e
  injection e with e1 e2
  subst e1 e2
  exact ⟨A0, c0, A1, c1, A2, c2, r⟩
theorem hd_six {w : World} {b : Nat} {H : Hd9} (hB : BoxL w b (hdC H)) : BoxL ((((((w.setCell ⟨b, 0, none⟩ (.int .i64 H.em)).setCell ⟨b, 1, none⟩ (.int .i64 H.a)).setCell ⟨b, 2, none⟩ (.int .i64 H.b)).setCell ⟨b, 3, none⟩ (.int .i64 H.c)).setCell ⟨b, 4, none⟩ (.int .i64 H.d)).setCell ⟨b, 5, none⟩ (.bool H.l)) b (hdC H) := ((((((hB.set 0 _).set 1 _).set 2 _).set 3 _).set 4 _).set 5 _)
theorem mx_six {w : World} {b : Nat} {M : Mx9} (hB : BoxL w b (mxC M)) : BoxL (((((((w.setCell ⟨b, 0, none⟩ (.int .i64 M.g)).setCell ⟨b, 1, none⟩ (.int .i64 M.p)).setCell ⟨b, 2, none⟩ (.int .i64 M.c)).setCell ⟨b, 3, none⟩ (.int .i64 M.q)).setCell ⟨b, 4, none⟩ (.int .i64 M.r)).setCell ⟨b, 5, none⟩ (.int .i64 M.e)).setCell ⟨b, 6, none⟩ (.int .i64 M.d)) b (mxC M) := (((((((hB.set 0 _).set 1 _).set 2 _).set 3 _).set 4 _).set 5 _).set 6 _)
theorem hd_far {w : World} {b b' : Nat} {H : Hd9} {cs : List Value} (hb : b' ≠ b) (hB : BoxL w b cs) : BoxL ((((((w.setCell ⟨b', 0, none⟩ (.int .i64 H.em)).setCell ⟨b', 1, none⟩ (.int .i64 H.a)).setCell ⟨b', 2, none⟩ (.int .i64 H.b)).setCell ⟨b', 3, none⟩ (.int .i64 H.c)).setCell ⟨b', 4, none⟩ (.int .i64 H.d)).setCell ⟨b', 5, none⟩ (.bool H.l)) b cs := ((((((hB.far (hb) 0 _).far (hb) 1 _).far (hb) 2 _).far (hb) 3 _).far (hb) 4 _).far (hb) 5 _)
theorem mx_far {w : World} {b b' : Nat} {M : Mx9} {cs : List Value} (hb : b' ≠ b) (hB : BoxL w b cs) : BoxL (((((((w.setCell ⟨b', 0, none⟩ (.int .i64 M.g)).setCell ⟨b', 1, none⟩ (.int .i64 M.p)).setCell ⟨b', 2, none⟩ (.int .i64 M.c)).setCell ⟨b', 3, none⟩ (.int .i64 M.q)).setCell ⟨b', 4, none⟩ (.int .i64 M.r)).setCell ⟨b', 5, none⟩ (.int .i64 M.e)).setCell ⟨b', 6, none⟩ (.int .i64 M.d)) b cs := (((((((hB.far hb 0 _).far hb 1 _).far hb 2 _).far hb 3 _).far hb 4 _).far hb 5 _).far hb 6 _)
theorem hd_sinc {w w0 : World} {b : Nat} {H : Hd9} (hb : w0.heap.size ≤ b) (hS : Since w0 w) : Since w0 ((((((w.setCell ⟨b, 0, none⟩ (.int .i64 H.em)).setCell ⟨b, 1, none⟩ (.int .i64 H.a)).setCell ⟨b, 2, none⟩ (.int .i64 H.b)).setCell ⟨b, 3, none⟩ (.int .i64 H.c)).setCell ⟨b, 4, none⟩ (.int .i64 H.d)).setCell ⟨b, 5, none⟩ (.bool H.l)) := (nigh_setCells b (hdC H) 0 (Nigh.refl b w)).2 w0 hS hb
theorem mx_sinc {w w0 : World} {b : Nat} {M : Mx9} (hb : w0.heap.size ≤ b) (hS : Since w0 w) : Since w0 (((((((w.setCell ⟨b, 0, none⟩ (.int .i64 M.g)).setCell ⟨b, 1, none⟩ (.int .i64 M.p)).setCell ⟨b, 2, none⟩ (.int .i64 M.c)).setCell ⟨b, 3, none⟩ (.int .i64 M.q)).setCell ⟨b, 4, none⟩ (.int .i64 M.r)).setCell ⟨b, 5, none⟩ (.int .i64 M.e)).setCell ⟨b, 6, none⟩ (.int .i64 M.d)) := (nigh_setCells b (mxC M) 0 (Nigh.refl b w)).2 w0 hS hb
theorem look3 (TT : List Tb) (s0 s1 s2 : ByteArray) (A : Option Addr) (N c b : Nat) (w0 w : World) (hR : RdTL w0 w0.heap.size A TT) (hL : N = TT.length) (hn : N ≤ maxLen) (hm : ∀ T, T ∈ TT → T.data.length ≤ 140737488355328) (hS : Since w0 w) (ty : TypeId) (hb : b = w.heap.size) :
    Calls Tryz.prog 44 #[.slice A N c, .slice (some ⟨b, 0, none⟩) 3 3] (w.alloc (.cells #[.string s0, .string s1, .string s2] ty)) fun e w' => ∃ A2 c2, e = .returned (.tuple #[.slice A2 3 c2, .int .i64 (lookE TT [s0, s1, s2])]) ∧ OwnBL w' w.heap.size (.slice A2 3 c2) [dat9 TT s0, dat9 TT s1, dat9 TT s2] ∧ Since w w' := by
  have hk := (Since.refl w).alloc (.cells #[.string s0, .string s1, .string s2] ty)
  refine (fn_look TT [s0, s1, s2] A (some ⟨b, 0, none⟩) N c 3 3 _ (hR.on (hS.trans hk)) hL hn hm (rdG_lit hb _ (fun j s hj i hi => ?_)) rfl (by omega)).mono ?_
  · obtain rfl : i = 0 := by omega
    rcases j with _ | _ | _ | j
    · simp only [List.getElem?_cons_zero, Option.some.injEq] at hj; subst hj; rfl
    · simp only [List.getElem?_cons_succ, List.getElem?_cons_zero, Option.some.injEq] at hj; subst hj; rfl
    · simp only [List.getElem?_cons_succ, List.getElem?_cons_zero, Option.some.injEq] at hj; subst hj; rfl
    · simp at hj
  · rintro e w' ⟨A2, c2, rfl, hO, hX⟩
    exact ⟨A2, c2, rfl, OwnBL.low hO hk.below.size, hk.trans hX⟩
theorem look3E (TT : List Tb) (s0 s1 s2 : ByteArray) : lookE TT [s0, s1, s2] = if (has9 TT s0 && has9 TT s1 && has9 TT s2) = true then 0 else 8 := by
  unfold lookE; simp [Bool.and_assoc]
def FldP (TT : List Tb) (w : World) (e : Ending) (w' : World) : Prop := e = .returned (.tuple #[.agg (hdC (fldH TT)).toArray, .agg (mxC (fldM TT)).toArray, .int .i64 (fldC TT), .int .i64 (fldE TT)]) ∧ Since w w'
theorem fld_no {TT : List Tb} {w w' : World} {x : Int} (hx : fldE TT = x) (h0 : x ≠ 0) (hS : Since w w') : FldP TT w (.returned (.tuple #[.agg (hdC zH).toArray, .agg (mxC zM).toArray, .int .i64 0, .int .i64 x])) w' := by
  have h1 : ¬ fldE TT = 0 := by rw [hx]; exact h0
  refine ⟨?_, hS⟩
  unfold fldH fldM fldC
  rw [if_neg h1, if_neg h1, if_neg h1, hx]; rfl
theorem fld_yes {TT : List Tb} {w w' : World} (hx : fldE TT = 0) (hS : Since w w') : FldP TT w (.returned (.tuple #[.agg (hdC (ofL hd9 (dat9 TT tgHead))).toArray, .agg (mxC (ofL mx9 (dat9 TT tgMaxp))).toArray, .int .i64 (ofL ctN (dat9 TT tgHhea)), .int .i64 0])) w' := by
  refine ⟨?_, hS⟩
  unfold fldH fldM fldC
  rw [if_pos hx, if_pos hx, if_pos hx, hx]
set_option maxRecDepth 1000000 in
set_option maxHeartbeats 32000000 in
theorem fn_fields (TT : List Tb) (A : Option Addr) (N c : Nat) (w : World) (hT : Tabs w) (hR : RdTL w w.heap.size A TT) (hL : N = TT.length) (hn : N ≤ maxLen) (hm : ∀ T, T ∈ TT → T.data.length ≤ 140737488355328) (hby : ∀ T, T ∈ TT → Bytes T.data) :
    Calls Tryz.prog 55 #[.slice A N c] w (FldP TT w) := by
  have HLK := Lib.hid (fun b w2 (h2 : Since w w2) ty hb => look3 TT tgHead tgMaxp tgHhea A N c b w w2 hR hL hn hm h2 ty hb)
  have HT := Lib.hid hT
  have HB0 := Lib.hid (dat9_cases (P := Bytes) (TT := TT) (fun v hv => by cases hv) hby)
  have HL0 := Lib.hid (dat9_cases (P := fun L => L.length ≤ 140737488355328) (TT := TT) (by simp) hm)
  rw [look3E] at HLK
  clear hR hL hm hby hT
  cases h3 : three9 TT
  · have hE := Lib.hid (show fldE TT = 8 by unfold fldE; rw [if_pos h3])
    unfold three9 at h3
    rw [h3] at HLK
    simp only [Bool.false_eq_true, if_false] at HLK
    clear h3
    go_enter Tryz.func55, Tryz.ntmps55
    go_upto_region 1 with fail
    refine wp_named fun w1 hw1 => ?_
    have hS1 : Since w w1 := by subst hw1; (repeat (first | with_reducible (exact Since.refl _) | with_reducible assumption | with_reducible (refine Since.drew ?_) | with_reducible (refine Since.drewN ?_ _) | with_reducible (refine Since.alloc ?_ _) | (with_reducible (refine Since.setCell ?_ ?_ _); rotate_left; focus (first | (simp; done) | (simp; omega) | omega)) | (with_reducible (refine Since.trans ?_ (by with_reducible assumption)))))
    have hb1 : BoxL w1 w.heap.size (hdC zH) := by subst hw1; exact (BoxL.new w _ rfl _ _).alloc _
    have hb2 : BoxL w1 (w.heap.size + 1) (mxC zM) := by subst hw1; exact BoxL.new _ _ (by simp) _ _
    have hq1 : w.heap.size ≤ w.heap.size := Nat.le_refl _
    have hne : w.heap.size + 1 ≠ w.heap.size := by omega
    clear hw1
    go_wp2_with (first | (go_at_call 44; (with_reducible refine (HLK.out _ _ hS1 _ rfl).mono ?_); rintro e w2 ⟨A2, c2, rfl, hO2, hS2⟩; obtain ⟨bq, oq, B0, k0, B1, k1, B2, k2, rfl, hbq, d0, d1, d2, r0, r1, r2⟩ := rows3 (RdBL.ofOwn hO2); have hS12 := hS1.trans hS2; have hb21 := hb1.since hS2; have hb22 := hb2.since hS2) | (refine wp_hd_store rfl _ _ rfl (by rfl) (by with_reducible exact hb21) zH (by rfl) ?_; intro wy hz1 hNy; have hz2 := hb22.nigh hNy hne; have hSz := hNy.2 w hS12 (Nat.le_refl _)) | (refine wp_mx_store rfl _ _ rfl (by rfl) (by with_reducible exact hz2) zM (by rfl) ?_; intro wz hy2 hNz; have hy1 := hz1.nigh hNz (Ne.symm hne); have hSy := hNz.2 w hSz (Nat.le_succ _)))
    refine ret_agg22 (P := Tryz.prog) Tryz.results55 (by rfl) (by rfl) (by rfl) (by rfl) hy1 hy2 Tryz.underlying24 rfl infoHd Tryz.underlying26 rfl infoMx rfl (fld_no hE.out (by omega) hSy)
  · have h3' := h3
    unfold three9 at h3'
    rw [h3'] at HLK
    simp only [if_true] at HLK
    clear h3'
    have hEE := fldE.eq_1 TT
    rw [h3, if_neg (by simp)] at hEE
    have hYES := Lib.hid (fun (w' : World) (hx : fldE TT = 0) (hS : Since w w') => fld_yes hx hS)
    obtain ⟨L0, hL0⟩ : ∃ L, L = dat9 TT tgHead := ⟨_, rfl⟩
    obtain ⟨L1, hL1⟩ : ∃ L, L = dat9 TT tgMaxp := ⟨_, rfl⟩
    obtain ⟨L2, hL2⟩ : ∃ L, L = dat9 TT tgHhea := ⟨_, rfl⟩
    have y0 : Bytes L0 := by rw [hL0]; exact HB0.out _
    have y1 : Bytes L1 := by rw [hL1]; exact HB0.out _
    have y2 : Bytes L2 := by rw [hL2]; exact HB0.out _
    have n0 : L0.length ≤ 140737488355328 := by rw [hL0]; exact HL0.out _
    have n1 : L1.length ≤ 140737488355328 := by rw [hL1]; exact HL0.out _
    have n2 : L2.length ≤ 140737488355328 := by rw [hL2]; exact HL0.out _
    rw [← hL0, ← hL1, ← hL2] at HLK hYES
    rw [← hL0, ← hL1, ← hL2] at hEE
    have C0 := Lib.hid (fun A c w2 hT h => fn_head A c L0 w2 hT h y0 n0)
    have C1 := Lib.hid (fun A c w2 hT h => fn_maxp A c L1 w2 hT h y1 n1)
    have C2 := Lib.hid (fun A c w2 h => fn_count A c L2 w2 h y2 n2)
    clear hL0 hL1 hL2 h3 HB0 HL0 y0 y1 y2 n0 n1 n2
    generalize ofL hdE L0 = x0 at *
    generalize ofL mxE L1 = x1 at *
    generalize ofL ctE L2 = x2 at *
    generalize ofL hd9 L0 = H at *
    generalize ofL mx9 L1 = M at *
    generalize ofL ctN L2 = K at *
    by_cases hx0 : x0 = 0
    · subst hx0
      rw [if_neg (by simp)] at hEE
      by_cases hx1 : x1 = 0
      · subst hx1
        rw [if_neg (by simp)] at hEE
        by_cases hx2 : x2 = 0
        · subst hx2
          have hE := Lib.hid hEE
          clear hEE
          go_enter Tryz.func55, Tryz.ntmps55
          go_upto_region 1 with fail
          refine wp_named fun w1 hw1 => ?_
          have hS1 : Since w w1 := by subst hw1; (repeat (first | with_reducible (exact Since.refl _) | with_reducible assumption | with_reducible (refine Since.drew ?_) | with_reducible (refine Since.drewN ?_ _) | with_reducible (refine Since.alloc ?_ _) | (with_reducible (refine Since.setCell ?_ ?_ _); rotate_left; focus (first | (simp; done) | (simp; omega) | omega)) | (with_reducible (refine Since.trans ?_ (by with_reducible assumption)))))
          have hb1 : BoxL w1 w.heap.size (hdC zH) := by subst hw1; exact (BoxL.new w _ rfl _ _).alloc _
          have hb2 : BoxL w1 (w.heap.size + 1) (mxC zM) := by subst hw1; exact BoxL.new _ _ (by simp) _ _
          have hq1 : w.heap.size ≤ w.heap.size := Nat.le_refl _
          have hne : w.heap.size + 1 ≠ w.heap.size := by omega
          clear hw1
          go_upto_region 13 with (first | (go_at_call 44; (with_reducible refine (HLK.out _ _ hS1 _ rfl).mono ?_); rintro e w2 ⟨A2, c2, rfl, hO2, hS2⟩; obtain ⟨bq, oq, B0, k0, B1, k1, B2, k2, rfl, hbq, d0, d1, d2, r0, r1, r2⟩ := rows3 (RdBL.ofOwn hO2); have hS12 := hS1.trans hS2; have hb21 := hb1.since hS2; have hb22 := hb2.since hS2) | (go_at_call 99; (with_reducible refine (C0.out _ _ _ (HT.out.since hS12).b r0).mono ?_); rintro e w3 ⟨rfl, hS3⟩; have hS13 := hS12.trans hS3; have hb31 := hb21.since hS3; have hb32 := hb22.since hS3; skip) | (go_at_call 100; (with_reducible refine (C1.out _ _ _ (HT.out.since hS14) p1).mono ?_); rintro e w5 ⟨rfl, hS5⟩; have hS15 := hS14.trans hS5; have hb51 := hb41.since hS5; have hb52 := hb42.since hS5) | (go_at_call 101; (with_reducible refine (C2.out _ _ _ t2).mono ?_); rintro e w7 ⟨rfl, hS7⟩; have hS17 := hS16.trans hS7; have hb71 := hb61.since hS7; have hb72 := hb62.since hS7) | (refine wp_hd_store rfl _ _ rfl (by rfl) (by with_reducible exact hb31) H (by rfl) ?_; intro w4 hb41 hN4; have hb42 := hb32.nigh hN4 hne; have hS14 := hN4.2 w hS13 (Nat.le_refl _); have hO4 := (hO2.since hS3).nigh hN4 hb1.lt; obtain ⟨P0, a0, P1, a1, P2, a2, e0, e1, e2, p0, p1, p2⟩ := rows3a hO4) | (refine wp_mx_store rfl _ _ rfl (by rfl) (by with_reducible exact hb52) M (by rfl) ?_; intro w6 hb62 hN6; have hb61 := hb51.nigh hN6 (Ne.symm hne); have hS16 := hN6.2 w hS15 (Nat.le_succ _); have hO6 := (hO4.since hS5).nigh hN6 hb2.lt; obtain ⟨S0, i0, S1, i1, S2, i2, g0, g1, g2, t0, t1, t2⟩ := rows3a hO6))
          have q0 := hb71.cell 0 (v := .int .i64 H.em) rfl
          have q1 := hb71.cell 1 (v := .int .i64 H.a) rfl
          have q2 := hb71.cell 2 (v := .int .i64 H.b) rfl
          have q3 := hb71.cell 3 (v := .int .i64 H.c) rfl
          have q4 := hb71.cell 4 (v := .int .i64 H.d) rfl
          have q5 := hb71.cell 5 (v := .bool H.l) rfl
          have u0 := hb72.cell 0 (v := .int .i64 M.g) rfl
          have u1 := hb72.cell 1 (v := .int .i64 M.p) rfl
          have u2 := hb72.cell 2 (v := .int .i64 M.c) rfl
          have u3 := hb72.cell 3 (v := .int .i64 M.q) rfl
          have u4 := hb72.cell 4 (v := .int .i64 M.r) rfl
          have u5 := hb72.cell 5 (v := .int .i64 M.e) rfl
          have u6 := hb72.cell 6 (v := .int .i64 M.d) rfl
          have fz1 := fun j => hb71.frz j
          have fz2 := fun j => hb72.frz j
          have lz1 := hb71.lt
          have lz2 := hb72.lt
          have hne' : ¬ w.heap.size = w.heap.size + 1 := by omega
          clear d0 d1 d2 e0 e1 e2 g0 g1 g2
          go_region
          go_wp2_with fail
          refine ret_agg22 (P := Tryz.prog) Tryz.results55 (by rfl) (by rfl) (by rfl) (by rfl) (mx_far hne (hd_six hb71)).drew (mx_six (hd_far (Ne.symm hne) hb72)).drew Tryz.underlying24 rfl infoHd Tryz.underlying26 rfl infoMx rfl (hYES.out _ hE.out (Since.drew (mx_sinc (Nat.le_succ _) (hd_sinc (Nat.le_refl _) hS17))))
        · have dx : (x2 == 0) = false := by simpa using hx2
          have hE := Lib.hid hEE
          have HX := Lib.hid hx2
          clear hEE hYES hx2
          go_enter Tryz.func55, Tryz.ntmps55
          go_upto_region 1 with fail
          refine wp_named fun w1 hw1 => ?_
          have hS1 : Since w w1 := by subst hw1; (repeat (first | with_reducible (exact Since.refl _) | with_reducible assumption | with_reducible (refine Since.drew ?_) | with_reducible (refine Since.drewN ?_ _) | with_reducible (refine Since.alloc ?_ _) | (with_reducible (refine Since.setCell ?_ ?_ _); rotate_left; focus (first | (simp; done) | (simp; omega) | omega)) | (with_reducible (refine Since.trans ?_ (by with_reducible assumption)))))
          have hb1 : BoxL w1 w.heap.size (hdC zH) := by subst hw1; exact (BoxL.new w _ rfl _ _).alloc _
          have hb2 : BoxL w1 (w.heap.size + 1) (mxC zM) := by subst hw1; exact BoxL.new _ _ (by simp) _ _
          have hq1 : w.heap.size ≤ w.heap.size := Nat.le_refl _
          have hne : w.heap.size + 1 ≠ w.heap.size := by omega
          clear hw1
          go_wp2_with (first | (go_at_call 44; (with_reducible refine (HLK.out _ _ hS1 _ rfl).mono ?_); rintro e w2 ⟨A2, c2, rfl, hO2, hS2⟩; obtain ⟨bq, oq, B0, k0, B1, k1, B2, k2, rfl, hbq, d0, d1, d2, r0, r1, r2⟩ := rows3 (RdBL.ofOwn hO2); have hS12 := hS1.trans hS2; have hb21 := hb1.since hS2; have hb22 := hb2.since hS2) | (go_at_call 99; (with_reducible refine (C0.out _ _ _ (HT.out.since hS12).b r0).mono ?_); rintro e w3 ⟨rfl, hS3⟩; have hS13 := hS12.trans hS3; have hb31 := hb21.since hS3; have hb32 := hb22.since hS3; skip) | (go_at_call 100; (with_reducible refine (C1.out _ _ _ (HT.out.since hS14) p1).mono ?_); rintro e w5 ⟨rfl, hS5⟩; have hS15 := hS14.trans hS5; have hb51 := hb41.since hS5; have hb52 := hb42.since hS5) | (go_at_call 101; (with_reducible refine (C2.out _ _ _ t2).mono ?_); rintro e w7 ⟨rfl, hS7⟩; have hS17 := hS16.trans hS7; have hb71 := hb61.since hS7; have hb72 := hb62.since hS7) | (refine wp_hd_store rfl _ _ rfl (by rfl) (by with_reducible exact hb71) zH (by rfl) ?_; intro wy hz1 hNy; have hz2 := hb72.nigh hNy hne; have hSz := hNy.2 w hS17 (Nat.le_refl _)) | (refine wp_mx_store rfl _ _ rfl (by rfl) (by with_reducible exact hz2) zM (by rfl) ?_; intro wz hy2 hNz; have hy1 := hz1.nigh hNz (Ne.symm hne); have hSy := hNz.2 w hSz (Nat.le_succ _)) | (refine wp_hd_store rfl _ _ rfl (by rfl) (by with_reducible exact hb31) H (by rfl) ?_; intro w4 hb41 hN4; have hb42 := hb32.nigh hN4 hne; have hS14 := hN4.2 w hS13 (Nat.le_refl _); have hO4 := (hO2.since hS3).nigh hN4 hb1.lt; obtain ⟨P0, a0, P1, a1, P2, a2, e0, e1, e2, p0, p1, p2⟩ := rows3a hO4) | (refine wp_mx_store rfl _ _ rfl (by rfl) (by with_reducible exact hb52) M (by rfl) ?_; intro w6 hb62 hN6; have hb61 := hb51.nigh hN6 (Ne.symm hne); have hS16 := hN6.2 w hS15 (Nat.le_succ _); have hO6 := (hO4.since hS5).nigh hN6 hb2.lt; obtain ⟨S0, i0, S1, i1, S2, i2, g0, g1, g2, t0, t1, t2⟩ := rows3a hO6))
          refine ret_agg22 (P := Tryz.prog) Tryz.results55 (by rfl) (by rfl) (by rfl) (by rfl) hy1 hy2 Tryz.underlying24 rfl infoHd Tryz.underlying26 rfl infoMx rfl (fld_no hE.out HX.out hSy)
      · have dx : (x1 == 0) = false := by simpa using hx1
        rw [if_pos hx1] at hEE
        have hE := Lib.hid hEE
        have HX := Lib.hid hx1
        clear hEE hYES hx1
        go_enter Tryz.func55, Tryz.ntmps55
        go_upto_region 1 with fail
        refine wp_named fun w1 hw1 => ?_
        have hS1 : Since w w1 := by subst hw1; (repeat (first | with_reducible (exact Since.refl _) | with_reducible assumption | with_reducible (refine Since.drew ?_) | with_reducible (refine Since.drewN ?_ _) | with_reducible (refine Since.alloc ?_ _) | (with_reducible (refine Since.setCell ?_ ?_ _); rotate_left; focus (first | (simp; done) | (simp; omega) | omega)) | (with_reducible (refine Since.trans ?_ (by with_reducible assumption)))))
        have hb1 : BoxL w1 w.heap.size (hdC zH) := by subst hw1; exact (BoxL.new w _ rfl _ _).alloc _
        have hb2 : BoxL w1 (w.heap.size + 1) (mxC zM) := by subst hw1; exact BoxL.new _ _ (by simp) _ _
        have hq1 : w.heap.size ≤ w.heap.size := Nat.le_refl _
        have hne : w.heap.size + 1 ≠ w.heap.size := by omega
        clear hw1
        go_wp2_with (first | (go_at_call 44; (with_reducible refine (HLK.out _ _ hS1 _ rfl).mono ?_); rintro e w2 ⟨A2, c2, rfl, hO2, hS2⟩; obtain ⟨bq, oq, B0, k0, B1, k1, B2, k2, rfl, hbq, d0, d1, d2, r0, r1, r2⟩ := rows3 (RdBL.ofOwn hO2); have hS12 := hS1.trans hS2; have hb21 := hb1.since hS2; have hb22 := hb2.since hS2) | (go_at_call 99; (with_reducible refine (C0.out _ _ _ (HT.out.since hS12).b r0).mono ?_); rintro e w3 ⟨rfl, hS3⟩; have hS13 := hS12.trans hS3; have hb31 := hb21.since hS3; have hb32 := hb22.since hS3; skip) | (go_at_call 100; (with_reducible refine (C1.out _ _ _ (HT.out.since hS14) p1).mono ?_); rintro e w5 ⟨rfl, hS5⟩; have hS15 := hS14.trans hS5; have hb51 := hb41.since hS5; have hb52 := hb42.since hS5) | (refine wp_hd_store rfl _ _ rfl (by rfl) (by with_reducible exact hb61) zH (by rfl) ?_; intro wy hz1 hNy; have hz2 := hb62.nigh hNy hne; have hSz := hNy.2 w hS16 (Nat.le_refl _)) | (refine wp_mx_store rfl _ _ rfl (by rfl) (by with_reducible exact hz2) zM (by rfl) ?_; intro wz hy2 hNz; have hy1 := hz1.nigh hNz (Ne.symm hne); have hSy := hNz.2 w hSz (Nat.le_succ _)) | (refine wp_hd_store rfl _ _ rfl (by rfl) (by with_reducible exact hb31) H (by rfl) ?_; intro w4 hb41 hN4; have hb42 := hb32.nigh hN4 hne; have hS14 := hN4.2 w hS13 (Nat.le_refl _); have hO4 := (hO2.since hS3).nigh hN4 hb1.lt; obtain ⟨P0, a0, P1, a1, P2, a2, e0, e1, e2, p0, p1, p2⟩ := rows3a hO4) | (refine wp_mx_store rfl _ _ rfl (by rfl) (by with_reducible exact hb52) M (by rfl) ?_; intro w6 hb62 hN6; have hb61 := hb51.nigh hN6 (Ne.symm hne); have hS16 := hN6.2 w hS15 (Nat.le_succ _); have hO6 := (hO4.since hS5).nigh hN6 hb2.lt; obtain ⟨S0, i0, S1, i1, S2, i2, g0, g1, g2, t0, t1, t2⟩ := rows3a hO6))
        refine ret_agg22 (P := Tryz.prog) Tryz.results55 (by rfl) (by rfl) (by rfl) (by rfl) hy1 hy2 Tryz.underlying24 rfl infoHd Tryz.underlying26 rfl infoMx rfl (fld_no hE.out HX.out hSy)
    · have dx : (x0 == 0) = false := by simpa using hx0
      rw [if_pos hx0] at hEE
      have hE := Lib.hid hEE
      have HX := Lib.hid hx0
      clear hEE hYES hx0
      go_enter Tryz.func55, Tryz.ntmps55
      go_upto_region 1 with fail
      refine wp_named fun w1 hw1 => ?_
      have hS1 : Since w w1 := by subst hw1; (repeat (first | with_reducible (exact Since.refl _) | with_reducible assumption | with_reducible (refine Since.drew ?_) | with_reducible (refine Since.drewN ?_ _) | with_reducible (refine Since.alloc ?_ _) | (with_reducible (refine Since.setCell ?_ ?_ _); rotate_left; focus (first | (simp; done) | (simp; omega) | omega)) | (with_reducible (refine Since.trans ?_ (by with_reducible assumption)))))
      have hb1 : BoxL w1 w.heap.size (hdC zH) := by subst hw1; exact (BoxL.new w _ rfl _ _).alloc _
      have hb2 : BoxL w1 (w.heap.size + 1) (mxC zM) := by subst hw1; exact BoxL.new _ _ (by simp) _ _
      have hq1 : w.heap.size ≤ w.heap.size := Nat.le_refl _
      have hne : w.heap.size + 1 ≠ w.heap.size := by omega
      clear hw1
      go_wp2_with (first | (go_at_call 44; (with_reducible refine (HLK.out _ _ hS1 _ rfl).mono ?_); rintro e w2 ⟨A2, c2, rfl, hO2, hS2⟩; obtain ⟨bq, oq, B0, k0, B1, k1, B2, k2, rfl, hbq, d0, d1, d2, r0, r1, r2⟩ := rows3 (RdBL.ofOwn hO2); have hS12 := hS1.trans hS2; have hb21 := hb1.since hS2; have hb22 := hb2.since hS2) | (go_at_call 99; (with_reducible refine (C0.out _ _ _ (HT.out.since hS12).b r0).mono ?_); rintro e w3 ⟨rfl, hS3⟩; have hS13 := hS12.trans hS3; have hb31 := hb21.since hS3; have hb32 := hb22.since hS3; skip) | (refine wp_hd_store rfl _ _ rfl (by rfl) (by with_reducible exact hb41) zH (by rfl) ?_; intro wy hz1 hNy; have hz2 := hb42.nigh hNy hne; have hSz := hNy.2 w hS14 (Nat.le_refl _)) | (refine wp_mx_store rfl _ _ rfl (by rfl) (by with_reducible exact hz2) zM (by rfl) ?_; intro wz hy2 hNz; have hy1 := hz1.nigh hNz (Ne.symm hne); have hSy := hNz.2 w hSz (Nat.le_succ _)) | (refine wp_hd_store rfl _ _ rfl (by rfl) (by with_reducible exact hb31) H (by rfl) ?_; intro w4 hb41 hN4; have hb42 := hb32.nigh hN4 hne; have hS14 := hN4.2 w hS13 (Nat.le_refl _); have hO4 := (hO2.since hS3).nigh hN4 hb1.lt; obtain ⟨P0, a0, P1, a1, P2, a2, e0, e1, e2, p0, p1, p2⟩ := rows3a hO4))
      refine ret_agg22 (P := Tryz.prog) Tryz.results55 (by rfl) (by rfl) (by rfl) (by rfl) hy1 hy2 Tryz.underlying24 rfl infoHd Tryz.underlying26 rfl infoMx rfl (fld_no hE.out HX.out hSy)
end Go.Proofs.YteckkcpnfeoehaaGreatDoor
