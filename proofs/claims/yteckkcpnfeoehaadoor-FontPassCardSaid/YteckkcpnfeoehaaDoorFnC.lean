/-
  Layer 9: the data of the tables with some tags (lookUp).
-/
import Derived.Test.YteckkcpnfeoehaaDoorFnB
namespace Go.Proofs.YteckkcpnfeoehaaDoor
set_option maxRecDepth 100000
open Go.RowKit Go.ChangeShapes Go.WideShapes Go.Deep
set_option linter.unusedVariables false
set_option linter.unusedSimpArgs false

theorem has_ix (TT : List Tb) (s : ByteArray) : (has9 TT s = false ∧ (∀ T, T ∈ TT → eqT s T = false) ∧ dat9 TT s = []) ∨ (has9 TT s = true ∧ ∃ (j : Nat) (T : Tb), TT[j]? = some T ∧ eqT s T = true ∧ (∀ U, U ∈ TT.take j → eqT s U = false) ∧ dat9 TT s = T.data ∧ ixF (eqT s) 0 TT = (j : Int)) := by
  rcases ixF_cases (eqT s) TT 0 with ⟨h1, h2⟩ | ⟨j, T, h1, h2, h3, h4⟩
  · refine .inl ⟨?_, h2, ?_⟩
    · unfold has9; rw [List.any_eq_false]; intro T hT; rw [h2 T hT]; simp
    · unfold dat9
      rw [List.find?_eq_none.2 (fun T hT => by rw [h2 T hT]; simp)]; rfl
  · have hmem := List.mem_of_getElem? h2
    refine .inr ⟨?_, j, T, h2, h3, h4, ?_, by rw [h1, Nat.zero_add]⟩
    · unfold has9; rw [List.any_eq_true]; exact ⟨T, hmem, h3⟩
    · unfold dat9
      have hf : TT.find? (eqT s) = some T := by
        rw [List.find?_eq_some_iff_append]
        refine ⟨h3, TT.take j, TT.drop (j + 1), ?_, fun U hU => by rw [h4 U hU]; rfl⟩
        have hl : j < TT.length := by
          rcases Nat.lt_or_ge j TT.length with h | h
          · exact h
          · rw [List.getElem?_eq_none h] at h2; cases h2
        have e : TT[j] = T := by rw [List.getElem?_eq_getElem hl] at h2; exact Option.some.inj h2
        rw [← e, List.getElem_cons_drop hl, List.take_append_drop]
      rw [hf]; rfl
theorem dat9_cases {TT : List Tb} {P : List Int → Prop} (h0 : P []) (h : ∀ T, T ∈ TT → P T.data) (s : ByteArray) : P (dat9 TT s) := by
  rcases has_ix TT s with ⟨_, _, e⟩ | ⟨_, j, T, h2, _, _, e, _⟩
  · rw [e]; exact h0
  · rw [e]; exact h T (List.mem_of_getElem? h2)
def SetF (b : Nat) (fe : Int) (w : World) : Prop := w.cell? ⟨b, 0, none⟩ = some (.int .i64 fe) ∧ w.frozen? ⟨b, 0, none⟩ = false ∧ b < w.heap.size
theorem SetF.since {b : Nat} {fe : Int} {w w' : World} (h : SetF b fe w) (k : Since w w') : SetF b fe w' := ⟨(k.1 _ _ h.2.2).trans h.1, (k.2.1 _ _ h.2.2).trans h.2.1, k.2.2.1 _ h.2.2⟩
theorem SetF.grown {b : Nat} {fe : Int} {w w' : World} {row : Option Nat} (h : SetF b fe w) (hg : w.grownBy w' row) (hr : row ≠ some b) : SetF b fe w' := by
  have e := hg.block b h.2.2 (fun x => hr x.symm)
  exact ⟨cell_grown h.1 h.2.2 hg hr, by rw [← h.2.1]; simp only [World.frozen?, e], Nat.lt_of_lt_of_le h.2.2 hg.size⟩
def CellA (b : Nat) (v : Value) (w : World) : Prop := w.cell? ⟨b, 0, none⟩ = some v ∧ b < w.heap.size
theorem CellA.since {b : Nat} {v : Value} {w w' : World} (h : CellA b v w) (k : Since w w') : CellA b v w' := ⟨(k.1 _ _ h.2).trans h.1, k.2.2.1 _ h.2⟩
theorem CellA.nigh {b q : Nat} {v : Value} {w w' : World} (h : CellA b v w) (k : Nigh q w w') (hb : b ≠ q) : CellA b v w' := ⟨k.1.cell h.1 h.2 hb, Nat.lt_of_lt_of_le h.2 k.1.1⟩
theorem CellA.grown {b : Nat} {v : Value} {w w' : World} {row : Option Nat} (h : CellA b v w) (hg : w.grownBy w' row) (hr : row ≠ some b) : CellA b v w' := ⟨cell_grown h.1 h.2 hg hr, Nat.lt_of_lt_of_le h.2 hg.size⟩
/-- What the first error is behind a table that was looked for. -/
def fstE (fe : Int) (h : Bool) : Int := if h = true then fe else if fe = 0 then 8 else fe
def FindP (TT : List Tb) (s : ByteArray) (b1 : Nat) (fe : Int) (w : World) (e : Ending) (w' : World) : Prop :=
  ∃ v, e = .returned v ∧ OwnB w' w.heap.size v (dat9 TT s) ∧ Nigh b1 w w' ∧ SetF b1 (fstE fe (has9 TT s)) w'
theorem findp {TT : List Tb} {s : ByteArray} {b1 : Nat} {fe y : Int} {w w' : World} {v : Value} (hO : OwnB w' w.heap.size v (dat9 TT s)) (hN : Nigh b1 w w') (hy : fstE fe (has9 TT s) = y) (hF : SetF b1 y w') : FindP TT s b1 fe w (.returned v) w' := ⟨v, rfl, hO, hN, by rw [hy]; exact hF⟩
theorem SetF.put {b : Nat} {fe : Int} {w : World} (h : SetF b fe w) (y : Int) : SetF b y (w.setCell ⟨b, 0, none⟩ (.int .i64 y)) :=
  ⟨by rw [cell_set, if_pos ⟨rfl, rfl⟩, h.1]; rfl, (World.frozen?_setCell _ _ _ _).trans h.2.1, by simpa [World.setCell] using h.2.2⟩
set_option maxRecDepth 1000000 in
set_option maxHeartbeats 16000000 in
theorem fn_find (TT : List Tb) (s : ByteArray) (A : Option Addr) (N c b0 b1 : Nat) (fe : Int) (w : World) (hne : b0 ≠ b1) (h0 : w.cell? ⟨b0, 0, none⟩ = some (.slice A N c)) (hb0 : b0 < w.heap.size) (h1 : SetF b1 fe w) (hR : RdTL w w.heap.size A TT) (hL : N = TT.length) (hn : N ≤ maxLen) (hm : ∀ T, T ∈ TT → T.data.length ≤ 140737488355328) :
    Calls Tryd.prog 67 #[.string s, .pointer (some ⟨b0, 0, none⟩), .pointer (some ⟨b1, 0, none⟩)] w (FindP TT s b1 fe w) := by
  obtain ⟨c1, f1, l1⟩ := id h1
  have HF := Lib.hid h1
  rcases has_ix TT s with ⟨hh, hno, hd⟩ | ⟨hh, j, T, hT, heq, hf, hd, _⟩
  · have HC := Lib.hid (sf_find_no s A N c TT w hR hL hn hno)
    have HHd := Lib.hid hd
    have HHh := Lib.hid hh
    by_cases hz : fe = 0
    · subst hz
      clear hR hL hno hd hh hm h1
      go_enter Tryd.func67, Tryd.ntmps67
      go_wp2_with (go_at_call 68; (with_reducible refine HC.out.mono ?_); rintro e w2 ⟨rfl, hS2⟩; have HF2 := HF.out.since hS2; obtain ⟨c2, f2, l2⟩ := id HF2)
      go_ret
      refine findp (y := 8) ?_ (((Nigh.refl b1 w).since hS2).set 0 _) (by unfold fstE; rw [HHh.out]; rfl) (HF2.put 8)
      rw [HHd.out]; exact OwnG.nil _ _ _ _ _
    · have hz2 : (fe == 0) = false := by simpa using hz
      have HZ := Lib.hid hz
      clear hR hL hno hd hh hm h1 hz
      go_enter Tryd.func67, Tryd.ntmps67
      go_wp2_with (go_at_call 68; (with_reducible refine HC.out.mono ?_); rintro e w2 ⟨rfl, hS2⟩; have HF2 := HF.out.since hS2; obtain ⟨c2, f2, l2⟩ := id HF2)
      go_ret
      refine findp (y := fe) ?_ ((Nigh.refl b1 w).since hS2) (by unfold fstE; rw [HHh.out, if_neg (by simp), if_neg HZ.out]) HF2
      rw [HHd.out]; exact OwnG.nil _ _ _ _ _
  · have HC := Lib.hid (sf_find_yes s A N c TT w hR hL hn j T hT heq hf (hm T (List.mem_of_getElem? hT)))
    have HHd := Lib.hid hd
    have HHh := Lib.hid hh
    clear hR hL hd hh hm h1 hT heq hf
    go_enter Tryd.func67, Tryd.ntmps67
    go_wp2_with (go_at_call 68; (with_reducible refine HC.out.mono ?_); rintro e w2 ⟨v2, rfl, hO2, hS2⟩; have HF2 := HF.out.since hS2; obtain ⟨c2, f2, l2⟩ := id HF2)
    go_ret
    refine findp (y := fe) ?_ ((Nigh.refl b1 w).since hS2) (by unfold fstE; rw [HHh.out, if_pos rfl]) HF2
    rw [HHd.out]; exact hO2
def stL (s : ByteArray) : List Value := [.string s]
theorem OwnBL.keepB {w w' : World} {base : Nat} {v : Value} {GG : List (List Int)} (h : OwnBL w base v GG) (hk : ∀ b, base ≤ b → b < w.heap.size → w'.heap[b]? = w.heap[b]?) : OwnBL w' base v GG := by
  obtain ⟨hs, hl, ho, hK⟩ := h
  exact ⟨hs, hl, ho.keep hk, fun j x L h1 h2 => (hK j x L h1 h2).keep hk⟩
theorem OwnBL.low {w : World} {base base' : Nat} {v : Value} {GG : List (List Int)} (h : OwnBL w base v GG) (hb : base' ≤ base) : OwnBL w base' v GG := by
  obtain ⟨hs, hl, ho, hK⟩ := h
  exact ⟨hs, hl, ho.low hb, fun j x L h1 h2 => (hK j x L h1 h2).low hb⟩
def lookE (TT : List Tb) (ss : List ByteArray) : Int := if ss.all (has9 TT) = true then 0 else 8
theorem lookE_snoc (TT : List Tb) (ss : List ByteArray) (s : ByteArray) : lookE TT (ss ++ [s]) = fstE (lookE TT ss) (has9 TT s) := by
  unfold lookE fstE
  rw [List.all_append]
  cases hs : ss.all (has9 TT) <;> cases hh : has9 TT s <;> simp [hh]
def LookP (TT : List Tb) (ss : List ByteArray) (w : World) (e : Ending) (w' : World) : Prop :=
  ∃ A c, e = .returned (.tuple #[.slice A ss.length c, .int .i64 (lookE TT ss)]) ∧ OwnBL w' w.heap.size (.slice A ss.length c) (ss.map (dat9 TT)) ∧ Since w w'
set_option maxRecDepth 1000000 in
set_option maxHeartbeats 16000000 in
theorem fn_look (TT : List Tb) (ss : List ByteArray) (A S : Option Addr) (N c M d : Nat) (w : World) (hR : RdTL w w.heap.size A TT) (hL : N = TT.length) (hn : N ≤ maxLen) (hm : ∀ T, T ∈ TT → T.data.length ≤ 140737488355328) (hS : RdG 1 stL w w.heap.size S ss) (hM : M = ss.length) (hM3 : M ≤ 1000) :
    Calls Tryd.prog 31 #[.slice A N c, .slice S M d] w (LookP TT ss w) := by
  have hmf : ∀ (fn : Fn) (first cap : Array Value) (w : World), (Instr.makeFunc fn first cap).run Tryd.prog w = .ok (.func fn first cap) w := fun _ _ _ _ => rfl
  have HR := Lib.hid hR
  have HSS := Lib.hid hS
  have HM := Lib.hid hM
  have HL := Lib.hid hL
  have HB := Lib.hid (fun (w2 : World) (h2 : Since w w2) => hR.on h2)
  clear hR hS hM hL
  go_enter Tryd.func31, Tryd.ntmps31
  go_upto_block 0 with fail
  refine wp_named fun w1 hw1 => ?_
  have hS1 : Since w w1 := by subst hw1; (repeat (first | with_reducible (exact Since.refl _) | with_reducible assumption | with_reducible (refine Since.drew ?_) | with_reducible (refine Since.drewN ?_ _) | with_reducible (refine Since.alloc ?_ _) | (with_reducible (refine Since.setCell ?_ ?_ _); rotate_left; focus (first | (simp; done) | (simp; omega) | omega)) | (with_reducible (refine Since.trans ?_ (by with_reducible assumption)))))
  have hz1 : w1.heap.size = w.heap.size + 2 := by subst hw1; simp
  have hF1 : SetF (w.heap.size + 1) 0 w1 := by
    subst hw1
    exact ⟨by simp [go_sem], by simp [go_sem], by first | (simp; done) | (simp; omega)⟩
  have hA1 : CellA w.heap.size (.slice A N c) w1 := by
    subst hw1
    exact ⟨by simp [go_sem], by first | (simp; done) | (simp; omega)⟩
  clear hw1
  obtain ⟨b0, hb0⟩ : ∃ b0, b0 = w.heap.size := ⟨_, rfl⟩
  obtain ⟨b1, hb1⟩ : ∃ b1, b1 = w.heap.size + 1 := ⟨_, rfl⟩
  obtain ⟨B2, hB2⟩ : ∃ B2, B2 = w1.heap.size := ⟨_, rfl⟩
  have hlt : b0 ≠ b1 ∧ b0 < B2 ∧ b1 < B2 ∧ w.heap.size ≤ B2 ∧ w.heap.size ≤ b1 := by omega
  have HLT := Lib.hid hlt
  rw [← hb0] at hA1
  rw [← hb1] at hF1
  rw [← hb1, ← hb0]
  have hBw1 : B2 ≤ w1.heap.size := by omega
  clear hb0 hb1 hB2 hlt hz1
  go_cut [8, 14] (fun v y w2 => ∃ A2 c2, v = .slice A2 M c2 ∧ OwnBL w2 B2 (.slice A2 M c2) (ss.map (dat9 TT)) ∧ SetF b1 (lookE TT ss) w2 ∧ Since w w2)
  case first =>
    go_wp2_with fail
    go_loopw [8, 14] (fun v y wr => ∃ k : Nat, k ≤ M ∧ y = .int .i64 (k : Int) ∧ ∃ u, u = v ∧ OwnBL wr B2 u ((ss.take k).map (dat9 TT)) ∧ SetF b1 (lookE TT (ss.take k)) wr ∧ CellA b0 (.slice A N c) wr ∧ B2 ≤ wr.heap.size ∧ Since w wr) (fun _ y _ => M - (intOf y).toNat)
    case atStart => exact ⟨0, by omega, rfl, _, rfl, by simpa using OwnBL.nil _ _, by simpa [lookE] using hF1, hA1, hBw1, hS1⟩
    case round =>
      obtain ⟨k, hk, rfl, u, rfl, hO, hF, hA, hBw, hSr⟩ := hrel
      clear hF1 hA1 hS1 hBw1
      by_cases hkM : k < M
      · have hkI : (k : Int) < M := by omega
        have hkL : k < ss.length := by rw [← HM.out]; exact hkM
        have hsk : ss[k]? = some ss[k] := List.getElem?_eq_getElem hkL
        obtain ⟨b, o, rfl, hb, hc⟩ := (HSS.out.on hSr) (by omega)
        have hck := hc k _ hsk 0 (by omega)
        rw [Nat.mul_one, Nat.add_zero] at hck
        have HT := Lib.hid (show ss.take (k + 1) = ss.take k ++ [ss[k]] from List.take_succ_eq_append_getElem hkL)
        generalize ss[k] = s at *
        simp only [stL, List.getD_cons_zero] at hck
        have HFD := Lib.hid (fn_find TT s A N c b0 b1 (lookE TT (ss.take k)) wr HLT.out.1 hA.1 hA.2 hF (HB.out wr hSr) HL.out hn hm)
        unfold FindP at HFD
        have hGl : ((ss.take k).map (dat9 TT)).length ≤ 1000000 := by simp; omega
        clear hc hsk hkL
        go_wp2_with (first | (go_at_call 67; (with_reducible refine HFD.out.mono ?_); rintro e w4 ⟨v4, rfl, hO4, hN4, hF4⟩; obtain ⟨A4, c4, rfl, _, _⟩ := hO4.rd (by omega) byL_len; have hOL4 := hO.keepB (fun b hb1 hb2 => hN4.1.2 b hb2 (by have := HLT.out; omega))) | (at_builtin; refine wpList_append_bl rfl _ _ rfl (by rfl) hOL4 _ 1 A4 _ c4 _ (by rfl) _ rfl (OwnG.low hO4 hBw) hGl (Nat.le_trans hBw hN4.1.1) ?_; intro v5 w5 hO5 hg5 hq5 hv5))
        have hr1 : u.ownBlock ≠ some b1 := fun e => by have := (hq5 _ e).1; have := HLT.out; omega
        have hr0 : u.ownBlock ≠ some b0 := fun e => by have := (hq5 _ e).1; have := HLT.out; omega
        have hS4 : Since w w4 := hN4.2 w hSr HLT.out.2.2.2.2
        have hF5 := (hF4.since ((Since.refl w4).alloc _)).grown hg5 hr1
        have hA5 := ((hA.nigh hN4 HLT.out.1).since ((Since.refl w4).alloc _)).grown hg5 hr0
        have hS5 : Since w w5 := since_grown (hS4.alloc _) hg5 (fun q hq => Nat.le_trans HLT.out.2.2.2.1 (hq5 q hq).1)
        have hB5 : B2 ≤ w5.heap.size := by
          have h1 := hg5.size
          have h2 := hN4.1.1
          simp at h1
          omega
        go_roundw
        case rel => exact ⟨k + 1, by omega, by go_num, _, rfl, by rw [HT.out, List.map_append]; exact hO5, by rw [HT.out, lookE_snoc]; exact hF5, hA5, hB5, hS5⟩
        case measure => simp [intOf]; omega
      · obtain rfl : k = M := by omega
        have hkI : ¬ (k : Int) < (k : Int) := by omega
        have e1 : ss.take k = ss := by rw [HM.out]; exact List.take_length
        rw [e1] at hO hF
        obtain ⟨A8, c8, rfl, _, _⟩ := hO.rd
        rw [List.length_map, ← HM.out] at hO ⊢
        clear e1
        go_wp2_with fail
        go_meet
        exact ⟨_, _, rfl, hO, hF, hSr⟩
  case rest =>
    obtain ⟨A2, c2, rfl, hO2, hF2, hS2⟩ := hcut
    obtain ⟨k1, k2, k3⟩ := id hF2
    clear hF1 hA1 hS1
    go_wp2_with fail
    go_quiet (fail)
    go_wp2_with fail
    go_ret2
    refine ⟨A2, c2, by rw [← HM.out]; rfl, ?_, by first | exact hS2 | exact hS2.drewN _⟩
    rw [← HM.out]
    exact (OwnBL.low hO2 HLT.out.2.2.2.1).since (by first | exact (Since.refl _).drewN _ | exact Since.refl _)
end Go.Proofs.YteckkcpnfeoehaaDoor
