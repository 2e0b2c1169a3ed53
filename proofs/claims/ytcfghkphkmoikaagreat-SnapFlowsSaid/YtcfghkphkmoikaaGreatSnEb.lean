/-
  Layer 17: 'Edges', walked.
-/
import Derived.Test.YtcfghkphkmoikaaGreatSnEa
import Derived.Test.YtcfghkphkmoikaaGreatSnY
import Derived.Test.YtcfghkphkmoikaaGreatMqQ
namespace Go.Proofs.YtcfghkphkmoikaaGreat
set_option maxRecDepth 100000
open Go.RowKit Go.Sort Go.Maps
set_option linter.unusedVariables false
/-- What 'Edges' leaves, of any two operands' lines. -/
def EdgesOut (A B : List Ln) (w : World) (e : Ending) (w' : World) : Prop :=
  Since w w' ∧ ((4096 < A.length + B.length ∧ e = .returned (.tuple #[.slice none 0 0, .int .i64 7])) ∨ (A.length + B.length ≤ 4096 ∧ (∃ l ∈ A ++ B, lnG l = false) ∧ e = .returned (.tuple #[.slice none 0 0, .int .i64 6])) ∨
    (A.length + B.length ≤ 4096 ∧ (∀ l ∈ A ++ B, lnG l = true) ∧ ∃ v E, e = .returned (.tuple #[v, .int .i64 0]) ∧ OwnG 47 6 egL w' w.heap.size v E ∧ EdgesL A B E))
theorem TreeR.kc {w w' : World} {bt : Nat} {P : List Pq} {m : Nat} (h : TreeR w w.heap.size bt P m) (k : KC w w') : TreeR w' w'.heap.size bt P m := by
  obtain ⟨h0, ⟨A, c, h1, h2⟩, A', c', hs, h3, h4, h5, h6⟩ := h
  exact ⟨Nat.lt_of_lt_of_le h0 k.1, ⟨A, c, k.cell h1, k.rd h2⟩, A', c', hs, k.cell h3, h4, k.rd h5, fun j x hj => ⟨(h6 j x hj).1, k.rd (h6 j x hj).2⟩⟩
theorem chain_found {P H C : List Pq} {m : Nat} {l : Ln} (hp : P.Perm H) (hd : H.Nodup) (hM : TreeM P m) (hc : C.Perm ((srL l P m 0).filter (hitL l))) (hs : SortedL (Go.Proofs.ltOf (cmpA l)) C) : ChL l H C := by
  have hsub := found_sub l P hM.cover
  have hPn : P.Nodup := hp.nodup_iff.2 hd
  refine chain_of (hsub.nodup hPn) hc hs (fun p hpH ht => ?_) (fun p hpN => hp.mem_iff.1 (hsub.subset hpN))
  exact found_mem hM.cover (hp.mem_iff.2 hpH) (hitB_G ht)
theorem px_hot_ok (A : Option Addr) (n c : Nat) (L : List Ln) (w : World) (hn : n = L.length) (h : n ≤ 4096) (hg : ∀ l ∈ L, lnG l = true) (hr : RdG 4 lnE w w.heap.size A L) (hwf : ∀ l ∈ L, l.wf) :
    Calls Tryz.prog 36 #[.slice A n c] w fun e w' => ∃ v H, e = .returned (.tuple #[v, .int .i64 0]) ∧ OwnG 23 2 ptL w' w.heap.size v H ∧ HotL L H ∧ Since w w' := by
  subst hn
  refine (px_hot A c L w hr hwf).mono ?_
  rintro e w' ⟨hS, (⟨k, _⟩ | ⟨_, ⟨l, hl, k⟩, _⟩ | ⟨_, _, v, H, rfl, h1, h2⟩)⟩
  · omega
  · rw [hg l hl] at k; cases k
  · exact ⟨v, H, rfl, h1, h2, hS⟩
theorem px_hot_bad (A : Option Addr) (n c : Nat) (L : List Ln) (w : World) (hn : n = L.length) (h : n ≤ 4096) (hg : ∃ l ∈ L, lnG l = false) (hr : RdG 4 lnE w w.heap.size A L) (hwf : ∀ l ∈ L, l.wf) :
    Calls Tryz.prog 36 #[.slice A n c] w fun e w' => e = .returned (.tuple #[.slice none 0 0, .int .i64 6]) ∧ Since w w' := by
  subst hn
  refine (px_hot A c L w hr hwf).mono ?_
  rintro e w' ⟨hS, (⟨k, _⟩ | ⟨_, _, rfl⟩ | ⟨_, k, _⟩)⟩
  · omega
  · exact ⟨rfl, hS⟩
  · obtain ⟨l, hl, h0⟩ := hg
    rw [k l hl] at h0; cases h0
set_option maxRecDepth 100000 in
set_option maxHeartbeats 8000000 in
theorem sn_edges_many (A B : Option Addr) (n m c d : Nat) (w : World) (h : 4096 < n + m) (hn : n ≤ maxLen) (hm : m ≤ maxLen) (hw : n + m ≤ 9223372036854775807) :
    Calls Tryz.prog 15 #[.slice A n c, .slice B m d] w fun e w' => e = .returned (.tuple #[.slice none 0 0, .int .i64 7]) ∧ Since w w' := by
  have e1 : IntKind.i64.wrap ((n : Int) + (m : Int)) = (n : Int) + (m : Int) := IntWalk.i64_in _ (by omega)
  have e2 : (4096 : Int) < (n : Int) + (m : Int) := by omega
  go_enter Tryz.func15, Tryz.ntmps15
  go_wp2
  go_ret2
  exact ⟨rfl, by (repeat (first | with_reducible (exact Since.refl _) | with_reducible assumption | with_reducible (refine Since.drew ?_) | with_reducible (refine Since.drewN ?_ _) | with_reducible (refine Since.alloc ?_ _) | (with_reducible (refine Since.setCell ?_ ?_ _); rotate_left; focus (first | (simp; done) | (simp; omega) | omega)) | (with_reducible (refine Since.trans ?_ (by with_reducible assumption)))))⟩
set_option maxRecDepth 100000 in
set_option maxHeartbeats 8000000 in
theorem sn_edges_bad (A B : Option Addr) (n m c d : Nat) (L M : List Ln) (w : World) (hn : n = L.length) (hm : m = M.length) (hL : RdG 4 lnE w w.heap.size A L) (hM : RdG 4 lnE w w.heap.size B M) (hwf : ∀ l ∈ L ++ M, l.wf) (h : n + m ≤ 4096) (hg : ∃ l ∈ L ++ M, lnG l = false) :
    Calls Tryz.prog 15 #[.slice A n c, .slice B m d] w fun e w' => e = .returned (.tuple #[.slice none 0 0, .int .i64 6]) ∧ Since w w' := by
  have e1 : IntKind.i64.wrap ((n : Int) + (m : Int)) = (n : Int) + (m : Int) := IntWalk.i64_in _ (by omega)
  have e2 : ¬ (4096 : Int) < (n : Int) + (m : Int) := by omega
  have hC := fun (w1 : World) (b : Nat) (hb : b < w1.heap.size) (hS : Since w w1) h0 h1 => sn_concat A B n m c d b L M w1 hn hm (hL.on hS) (hM.on hS) hb h0 h1 (by omega)
  have HC := Lib.hid hC; have HG := Lib.hid hg; have HW := Lib.hid hwf
  have hnm : n + m = (L ++ M).length := by rw [List.length_append, hn, hm]
  have HN := Lib.hid hnm
  clear hC hn hm hL hM hg hwf hnm
  go_enter Tryz.func15, Tryz.ntmps15
  go_wp2_with (first | (go_at_call 35; (with_reducible refine (HC.out _ w.heap.size (by simp) (by (repeat (first | with_reducible (exact Since.refl _) | with_reducible assumption | with_reducible (refine Since.drew ?_) | with_reducible (refine Since.drewN ?_ _) | with_reducible (refine Since.alloc ?_ _) | (with_reducible (refine Since.setCell ?_ ?_ _); rotate_left; focus (first | (simp; done) | (simp; omega) | omega)) | (with_reducible (refine Since.trans ?_ (by with_reducible assumption)))))) (TwoAt.new w _ rfl _ _ _).c0 (TwoAt.new w _ rfl _ _ _).c1).mono ?_); rintro e w1 ⟨v1, rfl, hO1, hS1⟩; have hT1 : Since w w1 := (by (repeat (first | with_reducible (exact Since.refl _) | with_reducible assumption | with_reducible (refine Since.drew ?_) | with_reducible (refine Since.drewN ?_ _) | with_reducible (refine Since.alloc ?_ _) | (with_reducible (refine Since.setCell ?_ ?_ _); rotate_left; focus (first | (simp; done) | (simp; omega) | omega)) | (with_reducible (refine Since.trans ?_ (by with_reducible assumption)))))); obtain ⟨A1, c1, hv1, _, hR1⟩ := OwnG.rd (by omega) lnE_len hO1; rw [← HN.out] at hv1; subst hv1; have HR1 := Lib.hid hR1; clear hR1 hO1 hS1) | (go_at_call 36; (with_reducible refine (px_hot_bad A1 (n + m) c1 (L ++ M) w1 HN.out h HG.out HR1.out HW.out).mono ?_); rintro e w2 ⟨rfl, hS2⟩; have hT2 := hT1.trans hS2))
  go_ret2
  exact ⟨rfl, hT2⟩
/-- The steps that the first i lines have made, of the first operand and of the second. -/
noncomputable def stA (H : List Pq) (L : List Ln) (i : Nat) : List (Pq × Pq) := (L.take i).flatMap (fun l => stp (chOf H l))
theorem stA_succ {H : List Pq} {L : List Ln} {i : Nat} {s : Ln} (h : L[i]? = some s) : stA H L (i + 1) = stA H L i ++ stp (chOf H s) := by
  unfold stA
  rw [List.take_add_one, h, List.flatMap_append]
  simp
theorem stA_all {H : List Pq} {L : List Ln} {i : Nat} (h : L.length ≤ i) : stA H L i = L.flatMap (fun l => stp (chOf H l)) := by
  unfold stA
  rw [List.take_of_length_le h]
theorem chs_more {H C : List Pq} {L : List Ln} {i : Nat} {s : Ln} (hs : L[i]? = some s) (h : ∀ l ∈ L.take i, ∃ C, ChL l H C) (hC : ChL s H C) : ∀ l ∈ L.take (i + 1), ∃ C, ChL l H C := fun l hl => by
  rw [List.take_add_one, hs, List.mem_append] at hl
  rcases hl with hl | hl
  · exact h l hl
  · have e : l = s := by simpa using hl
    rw [e]; exact ⟨C, hC⟩
set_option maxRecDepth 100000 in
set_option maxHeartbeats 8000000 in
theorem sn_edges_ok (A B : Option Addr) (n m c d : Nat) (L M : List Ln) (w : World) (hn : n = L.length) (hm : m = M.length) (hL : RdG 4 lnE w w.heap.size A L) (hM : RdG 4 lnE w w.heap.size B M) (hwf : ∀ l ∈ L ++ M, l.wf) (h : n + m ≤ 120) (hg : ∀ l ∈ L ++ M, lnG l = true) :
    Calls Tryz.prog 15 #[.slice A n c, .slice B m d] w fun e w' => EdgesOut L M w e w' := by
  have e1 : IntKind.i64.wrap ((n : Int) + (m : Int)) = (n : Int) + (m : Int) := IntWalk.i64_in _ (by omega)
  have e2 : ¬ (4096 : Int) < (n : Int) + (m : Int) := by omega
  have hC := fun (w1 : World) (b : Nat) (hb : b < w1.heap.size) (hS : Since w w1) h0 h1 => sn_concat A B n m c d b L M w1 hn hm (hL.on hS) (hM.on hS) hb h0 h1 (by omega)
  have HC := Lib.hid hC; have HG := Lib.hid hg; have HW := Lib.hid hwf
  have hnm : n + m = (L ++ M).length := by rw [List.length_append, hn, hm]
  have HN := Lib.hid hnm; have HNL := Lib.hid hn; have HNM := Lib.hid hm
  have hmm := @run_makeMap Tryz.prog
  clear hC hn hm hL hM hg hwf hnm
  go_enter Tryz.func15, Tryz.ntmps15
  go_upto_region 9 with (first | (go_at_call 35; (with_reducible refine (HC.out _ w.heap.size (by simp) (by (repeat (first | with_reducible (exact Since.refl _) | with_reducible assumption | with_reducible (refine Since.drew ?_) | with_reducible (refine Since.drewN ?_ _) | with_reducible (refine Since.alloc ?_ _) | (with_reducible (refine Since.setCell ?_ ?_ _); rotate_left; focus (first | (simp; done) | (simp; omega) | omega)) | (with_reducible (refine Since.trans ?_ (by with_reducible assumption)))))) (TwoAt.new w _ rfl _ _ _).c0 (TwoAt.new w _ rfl _ _ _).c1).mono ?_); rintro e w1 ⟨v1, rfl, hO1, hS1⟩; have hT1 : Since w w1 := (by (repeat (first | with_reducible (exact Since.refl _) | with_reducible assumption | with_reducible (refine Since.drew ?_) | with_reducible (refine Since.drewN ?_ _) | with_reducible (refine Since.alloc ?_ _) | (with_reducible (refine Since.setCell ?_ ?_ _); rotate_left; focus (first | (simp; done) | (simp; omega) | omega)) | (with_reducible (refine Since.trans ?_ (by with_reducible assumption)))))); obtain ⟨A1, c1, hv1, _, hR1⟩ := OwnG.rd (by omega) lnE_len hO1; rw [← HN.out] at hv1; subst hv1; have HR1 := Lib.hid hR1; clear hR1 hO1 hS1) | (go_at_call 36; (with_reducible refine (px_hot_ok A1 (n + m) c1 (L ++ M) w1 HN.out (by omega) HG.out HR1.out HW.out).mono ?_); rintro e w2 ⟨v2, H, rfl, hO2, hH, hS2⟩; have hT2 := hT1.trans hS2; have hS12 := hS2; obtain ⟨A2, c2, hv2, _, hR2⟩ := OwnG.rd (by omega) ptL_len hO2; obtain ⟨nH, hnH⟩ : ∃ nH, nH = H.length := ⟨_, rfl⟩; rw [← hnH] at hv2; subst hv2; have HR2 := Lib.hid hR2; have HH := Lib.hid hH; have HNH := Lib.hid hnH; clear hR2 hO2 hS2 hnH hH) | (go_at_call 37; (with_reducible refine (sn_plant A2 nH c2 H w2 HNH.out HR2.out (by have h1 := hot_len HH.out; rw [← HNH.out, ← HN.out] at h1; have h2 : (n + m) * (n + m) ≤ 120 * 120 := Nat.mul_le_mul h h; omega)).mono ?_); rintro e w3 ⟨bt, P, mT, rfl, hp, hTr, hTm, hmT, hS3⟩; have hT3 := hT2.trans hS3; have hS23 := hS3; have HP := Lib.hid hp; have HTr := Lib.hid hTr; have HTm := Lib.hid hTm; clear hp hTr hTm hS3))
  -- THE LOOPS
  have hmt : MapQ (w3.alloc (.map #[] 0)) w3.heap.size 0 (fun _ _ => none) := ⟨.map [], World.ownsMap_made _ _ _ _, TabQ.empty⟩
  have hTb0 : TabS (w3.alloc (.map #[] 0)) w3.heap.size 0 (stA H L 0) (stA H M (0 - n)) := ⟨_, hmt, by simpa [stA] using tab_nil, (fun a b v h => by cases h), by simp [stA], by simp [stA]⟩
  have hKC0 : KC w3 (w3.alloc (.map #[] 0)) := KC.of_since ((Since.refl _).alloc _)
  have hS0 : Since w (w3.alloc (.map #[] 0)) := hT3.alloc _
  have hbm : w.heap.size ≤ w3.heap.size := hT3.below.size
  have HRA := Lib.hid (HR1.out.on (hS12.trans hS23))
  have hTr3 := HTr.out
  have hHn := hot_nodup HH.out
  have hHx := hot_pix HH.out HG.out
  have hnH : nH ≤ 14640 := by
    have h1 := hot_len HH.out
    rw [← HNH.out, ← HN.out] at h1
    have h2 : (n + m) * (n + m) ≤ 120 * 120 := Nat.mul_le_mul h h
    omega
  have hPx : ∀ p ∈ P, PixOk p := fun p hp => hHx p (HP.out.mem_iff.1 hp)
  have hPl : P.length ≤ 100000000 := by rw [HP.out.length_eq, ← HNH.out]; omega
  have hmT2 : mT ≤ 100000000 := by omega
  clear hmt hT1 hT2 hT3 hS12 hS23 hmm
  go_wp2
  go_loopw [42] (fun y wr => ∃ i : Nat, i ≤ n + m ∧ y = .int .i64 (i : Int) ∧ KC w3 wr ∧ Since w wr ∧ TabS wr w3.heap.size (i * 14640) (stA H L i) (stA H M (i - n)) ∧ Hid (∀ l ∈ (L ++ M).take i, ∃ C, ChL l H C)) (fun y _ => n + m - (intOf y).toNat)
  case atStart => exact ⟨0, by omega, rfl, hKC0, hS0, by simpa using hTb0, Lib.hid (by simp)⟩
  case round =>
    obtain ⟨i, hi, rfl, hKC, hS, hTb, hCH0⟩ := hrel
    clear hTb0 hKC0 hS0
    by_cases hin : i < n + m
    · have hin' : (i : Int) < (n : Int) + (m : Int) := by omega
      have hin2 : (i : Int) < ((n + m : Nat) : Int) := by omega
      have hnn0 := HN.out
      obtain ⟨b, o, rfl, hb, hcell⟩ := HRA.out (by omega)
      obtain ⟨s, hs⟩ : ∃ s, (L ++ M)[i]? = some s := ⟨_, List.getElem?_eq_getElem (by omega)⟩
      have hsL := List.mem_of_getElem? hs
      have hgs : (goodB s.ax s.ay && goodB s.bx s.bz) = true := HG.out s hsL
      have hwfs := HW.out s hsL
      have c1 := hKC.cell (hcell i _ hs 0 (by omega))
      have c2 := hKC.cell (hcell i _ hs 1 (by omega))
      have c3 := hKC.cell (hcell i _ hs 2 (by omega))
      have c4 := hKC.cell (hcell i _ hs 3 (by omega))
      simp only [lnE, List.getD_cons_succ, List.getD_cons_zero, Nat.add_zero] at c1 c2 c3 c4
      have hi0 : (0 : Int) ≤ i := by omega
      have hbr : b < wr.heap.size := Nat.lt_of_lt_of_le hb hKC.1
      have HS := Lib.hid hs
      clear hnn0 hcell hs hsL
      by_cases hik : i < n
      · have hik' : ¬ (n : Int) ≤ (i : Int) := by omega
        have HK0 := Lib.hid (⟨_, rfl⟩ : ∃ q, q = i)
        go_upto_region 15 with fail
        refine wp_named fun wa hwa => ?_
        have hTa : Since wr wa := by subst hwa; exact (Since.refl _).alloc _
        have hLa : LnAt wa wr.heap.size s := by subst hwa; exact ln_new wr _ rfl s _
        have hKa := hKC.trans (KC.of_since hTa)
        have hSa := hS.trans hTa
        have hTba := hTb.since hTa
        have HTR := Lib.hid (hTr3.kc hKa)
        clear hwa hTa c1 c2 c3 c4 hKC hS hTb
        obtain ⟨l1, l2, l3, l4, l5⟩ := id hLa
        generalize wr.heap.size = bl at *
        have hNE := fun w' (hS' : Since wa w') => sn_near s hgs w' bt mT P (HTR.out.on hS') hPx hPl hmT2
        have hPA := fun A n c N w' (hn : n = N.length) hr (hN : n ≤ 100000000) => sn_passed s hwfs A n c N w' hn hr hN
        unfold Ln.v at hNE hPA
        have HNE := Lib.hid hNE; have HPA := Lib.hid hPA
        clear hNE hPA
        have hsub := found_sub s P HTm.out.cover
        have HSUB := Lib.hid hsub
        clear hsub
        (refine wp_named fun wr15 hwr15 => ?_; go_region_held3 (fun w' => (∀ b o, b < wr15.heap.size → w'.cell? ⟨b, o, none⟩ = wr15.cell? ⟨b, o, none⟩) ∧ (∀ b o, b < wr15.heap.size → w'.frozen? ⟨b, o, none⟩ = wr15.frozen? ⟨b, o, none⟩) ∧ (∀ k, k < wr15.heap.size → k < w'.heap.size) ∧ Below wr15.heap.size wr15 w') ((subst hwr15; (repeat (with_reducible (refine since_put ?_ ?_ _); rotate_left; focus (first | (simp; done) | (simp; omega) | omega))); first | with_reducible assumption | (refine since_step (by with_reducible assumption) ?_; first | with_reducible assumption | ((repeat (first | with_reducible (exact Since.refl _) | with_reducible assumption | with_reducible (refine Since.drew ?_) | with_reducible (refine Since.drewN ?_ _) | with_reducible (refine Since.alloc ?_ _) | (with_reducible (refine Since.setCell ?_ ?_ _); rotate_left; focus (first | (simp; done) | (simp; omega) | omega)))); done)) | (refine since_step (Since.refl _) ?_; first | with_reducible assumption | ((repeat (first | with_reducible (exact Since.refl _) | with_reducible assumption | with_reducible (refine Since.drew ?_) | with_reducible (refine Since.drewN ?_ _) | with_reducible (refine Since.alloc ?_ _) | (with_reducible (refine Since.setCell ?_ ?_ _); rotate_left; focus (first | (simp; done) | (simp; omega) | omega)) | (with_reducible (refine Since.trans ?_ (by with_reducible assumption))))); done)))) ((first | (go_at_call 38; (with_reducible refine (HNE.out _ (by (repeat (first | with_reducible (exact Since.refl _) | with_reducible assumption | with_reducible (refine Since.drew ?_) | with_reducible (refine Since.drewN ?_ _) | with_reducible (refine Since.alloc ?_ _) | (with_reducible (refine Since.setCell ?_ ?_ _); rotate_left; focus (first | (simp; done) | (simp; omega) | omega)) | (with_reducible (refine Since.trans ?_ (by with_reducible assumption))))))).mono ?_); rintro e wn ⟨vn, rfl, hOn, hSn⟩; obtain ⟨An, cn, hvn, _, hRn⟩ := OwnG.rd (by omega) ptL_len hOn; obtain ⟨nn, hnn⟩ : ∃ nn, nn = (srL s P mT 0).length := ⟨_, rfl⟩; rw [← hnn] at hvn; subst hvn; have HNN := Lib.hid hnn; have HRN := Lib.hid hRn; clear hnn hRn hOn; have hZ := hSn.below.size; (try simp at hZ)) | (go_at_call 32; (with_reducible refine (HPA.out An nn cn _ _ HNN.out (HRN.out.on (by (repeat (first | with_reducible (exact Since.refl _) | with_reducible assumption | with_reducible (refine Since.drew ?_) | with_reducible (refine Since.drewN ?_ _) | with_reducible (refine Since.alloc ?_ _) | (with_reducible (refine Since.setCell ?_ ?_ _); rotate_left; focus (first | (simp; done) | (simp; omega) | omega)) | (with_reducible (refine Since.trans ?_ (by with_reducible assumption))))))) (by have h1 := HSUB.out.length_le; have h2 := HNN.out; have h3 : (found s P mT).length = (srL s P mT 0).length := rfl; omega)).mono ?_); rintro e wp ⟨vp, C, rfl, hOp, hSp, hpm, hso⟩; obtain ⟨AC, cC, hvp, _, hRC⟩ := OwnG.rd (by omega) ptL_len hOp; obtain ⟨nC, hnC⟩ : ∃ nC, nC = C.length := ⟨_, rfl⟩; rw [← hnC] at hvp; subst hvp; have HNC := Lib.hid hnC; have HRC := Lib.hid hRC; have HCH := Lib.hid (chain_found HP.out hHn HTm.out hpm hso); clear hnC hRC hOp hpm hso; have hZ := hSp.below.size; (try simp at hZ)))); all_goals (rename_i hHeld; have hR15 : Since wr15 _ := hHeld; obtain ⟨hcR15, hfR15, hzR15, hbR15⟩ := hHeld; subst hwr15))
        have hnC : nC ≤ 14640 := by
          have h1 := chL_len HCH.out
          rw [← HNC.out, ← HNH.out] at h1
          omega
        have e7 : IntKind.i64.wrap ((nC : Int) - 1) = (nC : Int) - 1 := IntWalk.i64_in _ (by omega)
        have hKp := hKa.trans (KC.of_since hR15)
        have hSp2 := hSa.trans hR15
        have hTbp := hTba.since hR15
        clear hcR15 hfR15 hzR15 hbR15 hR15 hKa hSa hTba hSn hSp hLa l1 l2 l3 l4 l5 HNE HPA HSUB HNN HRN
        have hbmp : w3.heap.size < wp.heap.size := by
          obtain ⟨V, ⟨D, hD, _⟩, _⟩ := hTbp
          exact hD.lt
        go_wp2
        go_loopw [59] (fun y wi => ∃ j : Nat, j ≤ nC - 1 ∧ y = .int .i64 (j : Int) ∧ KC wp wi ∧ Since w wi ∧ TabS wi w3.heap.size (i * 14640 + j) (stA H L i ++ (stp C).take j) (stA H M (i - n))) (fun y _ => nC - (intOf y).toNat)
        case atStart => exact ⟨0, by omega, rfl, KC.refl _, hSp2, by simpa using hTbp⟩
        case round =>
          obtain ⟨j, hj, rfl, hKi, hSi, hTi⟩ := hrel
          by_cases hjn : j + 1 < nC
          · have hjI : (j : Int) < (nC : Int) - 1 := by omega
            have hncl := HNC.out
            obtain ⟨bc, oc, rfl, hbc, hcc⟩ := HRC.out (by omega)
            obtain ⟨x, hx⟩ : ∃ x, C[j]? = some x := ⟨_, List.getElem?_eq_getElem (by omega)⟩
            obtain ⟨y, hy⟩ : ∃ y, C[j + 1]? = some y := ⟨_, List.getElem?_eq_getElem (by omega)⟩
            have d1 := hKi.cell (hcc j _ hx 0 (by omega))
            have d2 := hKi.cell (hcc j _ hx 1 (by omega))
            have d3 := hKi.cell (hcc (j + 1) _ hy 0 (by omega))
            have d4 := hKi.cell (hcc (j + 1) _ hy 1 (by omega))
            simp only [ptL, List.getD_cons_succ, List.getD_cons_zero, Nat.add_zero] at d1 d2 d3 d4
            have hbci : bc < wr.heap.size := Nat.lt_of_lt_of_le hbc hKi.1
            have hxy := chL_step HCH.out hx hy
            have hpx := hHx x ((HCH.out.2 x).1 (List.mem_of_getElem? hx)).1
            have hpy := hHx y ((HCH.out.2 y).1 (List.mem_of_getElem? hy)).1
            have HTK := Lib.hid (take_stp hx hy)
            obtain ⟨u, v, d, hd, ha⟩ : ∃ (u v : Pq) (d : Int), ((LtP x y ∧ u = x ∧ v = y ∧ d = 1) ∨ (LtP y x ∧ u = y ∧ v = x ∧ d = -1)) ∧ ascV x y = .tuple #[.agg #[.int .i32 u.x, .int .i32 u.y, .int .i32 v.x, .int .i32 v.y], .int .i32 d] := by
              rcases ltP_trichotomy hxy with h | h
              · exact ⟨x, y, 1, .inl ⟨h, rfl, rfl, rfl⟩, by unfold ascV; rw [if_pos h]; rfl⟩
              · exact ⟨y, x, -1, .inr ⟨h, rfl, rfl, rfl⟩, by unfold ascV; rw [if_neg (fun k => ltP_asy h k)]; rfl⟩
            have hu : PixOk u := by rcases hd with ⟨_, rfl, _⟩ | ⟨_, rfl, _⟩ <;> assumption
            have hv : PixOk v := by rcases hd with ⟨_, _, rfl, _⟩ | ⟨_, _, rfl, _⟩ <;> assumption
            have hd1 : d = 1 ∨ d = -1 := by rcases hd with ⟨_, _, _, h⟩ | ⟨_, _, _, h⟩ <;> simp [h]
            have hA := fun w' => sn_asc x y hpx hpy w'
            rw [ha] at hA
            obtain ⟨mm, hmr, hlook, hupd⟩ := TabS.step0 hTi hu hv hd (by omega)
            obtain ⟨ux, uy⟩ := u
            obtain ⟨vx, vy⟩ := v
            obtain ⟨xx, xy⟩ := x
            obtain ⟨yx, yy⟩ := y
            obtain ⟨m1, m2⟩ := mm
            simp only at hA hlook hupd d1 d2 d3 d4 hmr
            unfold pcV mnV at hlook hupd
            simp only at hlook hupd
            unfold Pt at hA
            have e8 : IntKind.i32.wrap (m1 + d) = m1 + d := IntWalk.i32_in _ (by omega)
            have e9 : IntKind.i64.wrap ((j : Int) + 1) = (j : Int) + 1 := IntWalk.i64_in _ (by omega)
            have e10 : (j : Int) + 1 < (nC : Int) := by omega
            have e11 : (j : Int) < (nC : Int) := by omega
            have e12 : ((j : Int) + 1).toNat = j + 1 := by omega
            have hj0 : (0 : Int) ≤ j := by omega
            have hj1 : (0 : Int) ≤ (j : Int) + 1 := by omega
            have HA := Lib.hid hA; have HUP := Lib.hid hupd; have HLK := Lib.hid hlook; have HTI := Lib.hid hTi
            clear hA hupd hlook hcc hx hy ha hu hv hd hxy hpx hpy hncl hTi hTbp hSp2
            go_upto_region 19 with fail
            go_cut [16, 17] (fun cx sx wx => ∃ q : Nat, cx = .pointer (some ⟨q, 0, none⟩) ∧ sx = .int .i32 d ∧ Since wr wx ∧ Row wx q 4 (Qf ux uy vx vy))
            case first =>
              (refine wp_named fun wr19 hwr19 => ?_; go_region_held3 (fun w' => (∀ b o, b < wr19.heap.size → w'.cell? ⟨b, o, none⟩ = wr19.cell? ⟨b, o, none⟩) ∧ (∀ b o, b < wr19.heap.size → w'.frozen? ⟨b, o, none⟩ = wr19.frozen? ⟨b, o, none⟩) ∧ (∀ k, k < wr19.heap.size → k < w'.heap.size) ∧ Below wr19.heap.size wr19 w') ((subst hwr19; (repeat (with_reducible (refine since_put ?_ ?_ _); rotate_left; focus (first | (simp; done) | (simp; omega) | omega))); first | with_reducible assumption | (refine since_step (by with_reducible assumption) ?_; first | with_reducible assumption | ((repeat (first | with_reducible (exact Since.refl _) | with_reducible assumption | with_reducible (refine Since.drew ?_) | with_reducible (refine Since.drewN ?_ _) | with_reducible (refine Since.alloc ?_ _) | (with_reducible (refine Since.setCell ?_ ?_ _); rotate_left; focus (first | (simp; done) | (simp; omega) | omega)))); done)) | (refine since_step (Since.refl _) ?_; first | with_reducible assumption | ((repeat (first | with_reducible (exact Since.refl _) | with_reducible assumption | with_reducible (refine Since.drew ?_) | with_reducible (refine Since.drewN ?_ _) | with_reducible (refine Since.alloc ?_ _) | (with_reducible (refine Since.setCell ?_ ?_ _); rotate_left; focus (first | (simp; done) | (simp; omega) | omega)) | (with_reducible (refine Since.trans ?_ (by with_reducible assumption))))); done)))) ((go_at_call 39; (with_reducible refine (HA.out _).mono ?_); rintro e w8 ⟨rfl, hS8⟩; have hT8 := hS8; obtain ⟨hc8, hf8, hz8, hb8⟩ := hT8; have hZ8 := hS8.below.size; (try simp at hZ8); (try have hq8 := hz8 wr19.heap.size (by first | with_reducible assumption | (simp; done) | (simp; omega))))); all_goals (rename_i hHeld; have hR19 : Since wr19 _ := hHeld; obtain ⟨hcR19, hfR19, hzR19, hbR19⟩ := hHeld; subst hwr19))
              all_goals (go_wp2_with fail)
              all_goals go_meet
              all_goals refine ⟨_, rfl, rfl, ?_, ?_⟩
              all_goals (first | ((show Since _ _); (repeat (first | with_reducible (exact Since.refl _) | with_reducible assumption | with_reducible (refine Since.drew ?_) | with_reducible (refine Since.drewN ?_ _) | with_reducible (refine Since.alloc ?_ _) | (with_reducible (refine Since.setCell ?_ ?_ _); rotate_left; focus (first | (simp; done) | (simp; omega) | omega)) | (with_reducible (refine Since.trans ?_ (by with_reducible assumption))))); done) | ((repeat (first | with_reducible assumption | (with_reducible (refine qrow _ _ ?_ _ _ _ _ _); focus (first | with_reducible rfl | (simp; done))) | (with_reducible (refine qrow _ _ ?_ _ 0 0 0 0); focus (first | with_reducible rfl | (simp; done))) | with_reducible (refine qput0 ?_ _ _ _ _) | with_reducible (refine Row.drew ?_) | with_reducible (refine Row.alloc ?_ _) | with_reducible (refine Row.since ?_ hS8)))))
            case rest =>
              obtain ⟨q, rfl, rfl, hSx, hQ⟩ := hcut
              have hl := HLK.out wc hSx
              obtain ⟨r0, r1, r2, r3, r4⟩ := qcells hQ
              clear d1 d2 d3 d4
              go_upto_region 21 with fail
              refine wp_named fun wy hwy => ?_
              have hSy : Since wr wy := by subst hwy; exact hSx.alloc _
              have hVr : Row wy wc.heap.size 2 (Sf m1 m2) := by subst hwy; exact srow wc _ rfl _ m1 m2
              have hQy : Row wy q 4 (Qf ux uy vx vy) := by subst hwy; exact hQ.alloc _
              have hqv : q ≠ wc.heap.size := Nat.ne_of_lt r4
              have hbv : wr.heap.size ≤ wc.heap.size := hSx.below.size
              clear hwy hQ hl hSx r0 r1 r2 r3 r4
              generalize wc.heap.size = bv at *
              obtain ⟨r0, r1, r2, r3, r4⟩ := qcells hQy
              obtain ⟨v0, v1, v2⟩ := scells hVr
              have f0 := hVr.2.1 0
              have f1 := hVr.2.1 1
              go_wp2_with (at_mapUpdate; refine wpList_upd_tab rfl _ _ _ 77 rfl _ _ _ rfl rfl rfl (HUP.out _ (by (repeat (first | with_reducible (exact Since.refl _) | with_reducible assumption | with_reducible (refine Since.drew ?_) | with_reducible (refine Since.drewN ?_ _) | with_reducible (refine Since.alloc ?_ _) | (with_reducible (refine Since.setCell ?_ ?_ _); rotate_left; focus (first | (simp; done) | (simp; omega) | omega)) | (with_reducible (refine Since.trans ?_ (by with_reducible assumption))))))) ?_; intro wz hTz hgz)
              have HTZ := Lib.hid hTz
              have hmap := (HTI.out.since (show Since wr (wy.setCell ⟨bv, 0, none⟩ (.int .i32 (m1 + d))) from by (repeat (first | with_reducible (exact Since.refl _) | with_reducible assumption | with_reducible (refine Since.drew ?_) | with_reducible (refine Since.drewN ?_ _) | with_reducible (refine Since.alloc ?_ _) | (with_reducible (refine Since.setCell ?_ ?_ _); rotate_left; focus (first | (simp; done) | (simp; omega) | omega)) | (with_reducible (refine Since.trans ?_ (by with_reducible assumption))))))).map
              have hKz := (hKi.trans (KC.of_since (show Since wr (wy.setCell ⟨bv, 0, none⟩ (.int .i32 (m1 + d))) from by (repeat (first | with_reducible (exact Since.refl _) | with_reducible assumption | with_reducible (refine Since.drew ?_) | with_reducible (refine Since.drewN ?_ _) | with_reducible (refine Since.alloc ?_ _) | (with_reducible (refine Since.setCell ?_ ?_ _); rotate_left; focus (first | (simp; done) | (simp; omega) | omega)) | (with_reducible (refine Since.trans ?_ (by with_reducible assumption)))))))).grown hgz hmap
              have hSz := since_grown (hSi.trans (show Since wr (wy.setCell ⟨bv, 0, none⟩ (.int .i32 (m1 + d))) from by (repeat (first | with_reducible (exact Since.refl _) | with_reducible assumption | with_reducible (refine Since.drew ?_) | with_reducible (refine Since.drewN ?_ _) | with_reducible (refine Since.alloc ?_ _) | (with_reducible (refine Since.setCell ?_ ?_ _); rotate_left; focus (first | (simp; done) | (simp; omega) | omega)) | (with_reducible (refine Since.trans ?_ (by with_reducible assumption))))))) hgz (fun k hk => by injection hk with hk; omega)
              clear hTz hmap hgz
              go_roundw
              case rel => first | exact (⟨j + 1, by omega, by go_num, hKz, hSz, by rw [HTK.out, ← List.append_assoc]; exact HTZ.out⟩) | ((repeat apply Exists.intro); refine ⟨?_, rfl⟩; exact (⟨j + 1, by omega, by go_num, hKz, hSz, by rw [HTK.out, ← List.append_assoc]; exact HTZ.out⟩))
              case measure => (simp only [intOf]; omega)
          · have hjI : ¬ (j : Int) < (nC : Int) - 1 := by omega
            have hfull : (stp C).take j = stp C := List.take_of_length_le (by rw [stp_len, ← HNC.out]; omega)
            have hch : chOf H s = C := chOf_eq HCH.out
            have hKz := hKp.trans hKi
            have HCM := Lib.hid (chs_more HS.out hCH0.out HCH.out)
            rw [hfull] at hTi
            have HTE := Lib.hid (show TabS wr w3.heap.size ((i + 1) * 14640) (stA H L (i + 1)) (stA H M (i + 1 - n)) from by rw [stA_succ (show L[i]? = some s from by have := HS.out; rwa [List.getElem?_append_left (by rw [← HNL.out]; exact hik)] at this), hch, show i + 1 - n = i - n by omega]; exact hTi.mono (by omega))
            clear hTi hfull hch hTbp hSp2 hKi
            go_wp2
            go_roundw
            case rel => first | exact (⟨i + 1, by omega, by go_num, hKz, hSi, HTE.out, HCM⟩) | ((repeat apply Exists.intro); refine ⟨?_, rfl⟩; exact (⟨i + 1, by omega, by go_num, hKz, hSi, HTE.out, HCM⟩))
            case measure => (simp only [intOf]; omega)
      · have hik' : (n : Int) ≤ (i : Int) := by omega
        have HK0 := Lib.hid (⟨_, rfl⟩ : ∃ q, q = i)
        go_upto_region 15 with fail
        refine wp_named fun wa hwa => ?_
        have hTa : Since wr wa := by subst hwa; exact (Since.refl _).alloc _
        have hLa : LnAt wa wr.heap.size s := by subst hwa; exact ln_new wr _ rfl s _
        have hKa := hKC.trans (KC.of_since hTa)
        have hSa := hS.trans hTa
        have hTba := hTb.since hTa
        have HTR := Lib.hid (hTr3.kc hKa)
        clear hwa hTa c1 c2 c3 c4 hKC hS hTb
        obtain ⟨l1, l2, l3, l4, l5⟩ := id hLa
        generalize wr.heap.size = bl at *
        have hNE := fun w' (hS' : Since wa w') => sn_near s hgs w' bt mT P (HTR.out.on hS') hPx hPl hmT2
        have hPA := fun A n c N w' (hn : n = N.length) hr (hN : n ≤ 100000000) => sn_passed s hwfs A n c N w' hn hr hN
        unfold Ln.v at hNE hPA
        have HNE := Lib.hid hNE; have HPA := Lib.hid hPA
        clear hNE hPA
        have hsub := found_sub s P HTm.out.cover
        have HSUB := Lib.hid hsub
        clear hsub
        (refine wp_named fun wr15 hwr15 => ?_; go_region_held3 (fun w' => (∀ b o, b < wr15.heap.size → w'.cell? ⟨b, o, none⟩ = wr15.cell? ⟨b, o, none⟩) ∧ (∀ b o, b < wr15.heap.size → w'.frozen? ⟨b, o, none⟩ = wr15.frozen? ⟨b, o, none⟩) ∧ (∀ k, k < wr15.heap.size → k < w'.heap.size) ∧ Below wr15.heap.size wr15 w') ((subst hwr15; (repeat (with_reducible (refine since_put ?_ ?_ _); rotate_left; focus (first | (simp; done) | (simp; omega) | omega))); first | with_reducible assumption | (refine since_step (by with_reducible assumption) ?_; first | with_reducible assumption | ((repeat (first | with_reducible (exact Since.refl _) | with_reducible assumption | with_reducible (refine Since.drew ?_) | with_reducible (refine Since.drewN ?_ _) | with_reducible (refine Since.alloc ?_ _) | (with_reducible (refine Since.setCell ?_ ?_ _); rotate_left; focus (first | (simp; done) | (simp; omega) | omega)))); done)) | (refine since_step (Since.refl _) ?_; first | with_reducible assumption | ((repeat (first | with_reducible (exact Since.refl _) | with_reducible assumption | with_reducible (refine Since.drew ?_) | with_reducible (refine Since.drewN ?_ _) | with_reducible (refine Since.alloc ?_ _) | (with_reducible (refine Since.setCell ?_ ?_ _); rotate_left; focus (first | (simp; done) | (simp; omega) | omega)) | (with_reducible (refine Since.trans ?_ (by with_reducible assumption))))); done)))) ((first | (go_at_call 38; (with_reducible refine (HNE.out _ (by (repeat (first | with_reducible (exact Since.refl _) | with_reducible assumption | with_reducible (refine Since.drew ?_) | with_reducible (refine Since.drewN ?_ _) | with_reducible (refine Since.alloc ?_ _) | (with_reducible (refine Since.setCell ?_ ?_ _); rotate_left; focus (first | (simp; done) | (simp; omega) | omega)) | (with_reducible (refine Since.trans ?_ (by with_reducible assumption))))))).mono ?_); rintro e wn ⟨vn, rfl, hOn, hSn⟩; obtain ⟨An, cn, hvn, _, hRn⟩ := OwnG.rd (by omega) ptL_len hOn; obtain ⟨nn, hnn⟩ : ∃ nn, nn = (srL s P mT 0).length := ⟨_, rfl⟩; rw [← hnn] at hvn; subst hvn; have HNN := Lib.hid hnn; have HRN := Lib.hid hRn; clear hnn hRn hOn; have hZ := hSn.below.size; (try simp at hZ)) | (go_at_call 32; (with_reducible refine (HPA.out An nn cn _ _ HNN.out (HRN.out.on (by (repeat (first | with_reducible (exact Since.refl _) | with_reducible assumption | with_reducible (refine Since.drew ?_) | with_reducible (refine Since.drewN ?_ _) | with_reducible (refine Since.alloc ?_ _) | (with_reducible (refine Since.setCell ?_ ?_ _); rotate_left; focus (first | (simp; done) | (simp; omega) | omega)) | (with_reducible (refine Since.trans ?_ (by with_reducible assumption))))))) (by have h1 := HSUB.out.length_le; have h2 := HNN.out; have h3 : (found s P mT).length = (srL s P mT 0).length := rfl; omega)).mono ?_); rintro e wp ⟨vp, C, rfl, hOp, hSp, hpm, hso⟩; obtain ⟨AC, cC, hvp, _, hRC⟩ := OwnG.rd (by omega) ptL_len hOp; obtain ⟨nC, hnC⟩ : ∃ nC, nC = C.length := ⟨_, rfl⟩; rw [← hnC] at hvp; subst hvp; have HNC := Lib.hid hnC; have HRC := Lib.hid hRC; have HCH := Lib.hid (chain_found HP.out hHn HTm.out hpm hso); clear hnC hRC hOp hpm hso; have hZ := hSp.below.size; (try simp at hZ)))); all_goals (rename_i hHeld; have hR15 : Since wr15 _ := hHeld; obtain ⟨hcR15, hfR15, hzR15, hbR15⟩ := hHeld; subst hwr15))
        have hnC : nC ≤ 14640 := by
          have h1 := chL_len HCH.out
          rw [← HNC.out, ← HNH.out] at h1
          omega
        have e7 : IntKind.i64.wrap ((nC : Int) - 1) = (nC : Int) - 1 := IntWalk.i64_in _ (by omega)
        have hKp := hKa.trans (KC.of_since hR15)
        have hSp2 := hSa.trans hR15
        have hTbp := hTba.since hR15
        clear hcR15 hfR15 hzR15 hbR15 hR15 hKa hSa hTba hSn hSp hLa l1 l2 l3 l4 l5 HNE HPA HSUB HNN HRN
        have hbmp : w3.heap.size < wp.heap.size := by
          obtain ⟨V, ⟨D, hD, _⟩, _⟩ := hTbp
          exact hD.lt
        go_wp2
        go_loopw [59] (fun y wi => ∃ j : Nat, j ≤ nC - 1 ∧ y = .int .i64 (j : Int) ∧ KC wp wi ∧ Since w wi ∧ TabS wi w3.heap.size (i * 14640 + j) (stA H L i) (stA H M (i - n) ++ (stp C).take j)) (fun y _ => nC - (intOf y).toNat)
        case atStart => exact ⟨0, by omega, rfl, KC.refl _, hSp2, by simpa using hTbp⟩
        case round =>
          obtain ⟨j, hj, rfl, hKi, hSi, hTi⟩ := hrel
          by_cases hjn : j + 1 < nC
          · have hjI : (j : Int) < (nC : Int) - 1 := by omega
            have hncl := HNC.out
            obtain ⟨bc, oc, rfl, hbc, hcc⟩ := HRC.out (by omega)
            obtain ⟨x, hx⟩ : ∃ x, C[j]? = some x := ⟨_, List.getElem?_eq_getElem (by omega)⟩
            obtain ⟨y, hy⟩ : ∃ y, C[j + 1]? = some y := ⟨_, List.getElem?_eq_getElem (by omega)⟩
            have d1 := hKi.cell (hcc j _ hx 0 (by omega))
            have d2 := hKi.cell (hcc j _ hx 1 (by omega))
            have d3 := hKi.cell (hcc (j + 1) _ hy 0 (by omega))
            have d4 := hKi.cell (hcc (j + 1) _ hy 1 (by omega))
            simp only [ptL, List.getD_cons_succ, List.getD_cons_zero, Nat.add_zero] at d1 d2 d3 d4
            have hbci : bc < wr.heap.size := Nat.lt_of_lt_of_le hbc hKi.1
            have hxy := chL_step HCH.out hx hy
            have hpx := hHx x ((HCH.out.2 x).1 (List.mem_of_getElem? hx)).1
            have hpy := hHx y ((HCH.out.2 y).1 (List.mem_of_getElem? hy)).1
            have HTK := Lib.hid (take_stp hx hy)
            obtain ⟨u, v, d, hd, ha⟩ : ∃ (u v : Pq) (d : Int), ((LtP x y ∧ u = x ∧ v = y ∧ d = 1) ∨ (LtP y x ∧ u = y ∧ v = x ∧ d = -1)) ∧ ascV x y = .tuple #[.agg #[.int .i32 u.x, .int .i32 u.y, .int .i32 v.x, .int .i32 v.y], .int .i32 d] := by
              rcases ltP_trichotomy hxy with h | h
              · exact ⟨x, y, 1, .inl ⟨h, rfl, rfl, rfl⟩, by unfold ascV; rw [if_pos h]; rfl⟩
              · exact ⟨y, x, -1, .inr ⟨h, rfl, rfl, rfl⟩, by unfold ascV; rw [if_neg (fun k => ltP_asy h k)]; rfl⟩
            have hu : PixOk u := by rcases hd with ⟨_, rfl, _⟩ | ⟨_, rfl, _⟩ <;> assumption
            have hv : PixOk v := by rcases hd with ⟨_, _, rfl, _⟩ | ⟨_, _, rfl, _⟩ <;> assumption
            have hd1 : d = 1 ∨ d = -1 := by rcases hd with ⟨_, _, _, h⟩ | ⟨_, _, _, h⟩ <;> simp [h]
            have hA := fun w' => sn_asc x y hpx hpy w'
            rw [ha] at hA
            obtain ⟨mm, hmr, hlook, hupd⟩ := TabS.step1 hTi hu hv hd (by omega)
            obtain ⟨ux, uy⟩ := u
            obtain ⟨vx, vy⟩ := v
            obtain ⟨xx, xy⟩ := x
            obtain ⟨yx, yy⟩ := y
            obtain ⟨m1, m2⟩ := mm
            simp only at hA hlook hupd d1 d2 d3 d4 hmr
            unfold pcV mnV at hlook hupd
            simp only at hlook hupd
            unfold Pt at hA
            have e8 : IntKind.i32.wrap (m2 + d) = m2 + d := IntWalk.i32_in _ (by omega)
            have e9 : IntKind.i64.wrap ((j : Int) + 1) = (j : Int) + 1 := IntWalk.i64_in _ (by omega)
            have e10 : (j : Int) + 1 < (nC : Int) := by omega
            have e11 : (j : Int) < (nC : Int) := by omega
            have e12 : ((j : Int) + 1).toNat = j + 1 := by omega
            have hj0 : (0 : Int) ≤ j := by omega
            have hj1 : (0 : Int) ≤ (j : Int) + 1 := by omega
            have HA := Lib.hid hA; have HUP := Lib.hid hupd; have HLK := Lib.hid hlook; have HTI := Lib.hid hTi
            clear hA hupd hlook hcc hx hy ha hu hv hd hxy hpx hpy hncl hTi hTbp hSp2
            go_upto_region 19 with fail
            go_cut [16, 17] (fun cx sx wx => ∃ q : Nat, cx = .pointer (some ⟨q, 0, none⟩) ∧ sx = .int .i32 d ∧ Since wr wx ∧ Row wx q 4 (Qf ux uy vx vy))
            case first =>
              (refine wp_named fun wr19 hwr19 => ?_; go_region_held3 (fun w' => (∀ b o, b < wr19.heap.size → w'.cell? ⟨b, o, none⟩ = wr19.cell? ⟨b, o, none⟩) ∧ (∀ b o, b < wr19.heap.size → w'.frozen? ⟨b, o, none⟩ = wr19.frozen? ⟨b, o, none⟩) ∧ (∀ k, k < wr19.heap.size → k < w'.heap.size) ∧ Below wr19.heap.size wr19 w') ((subst hwr19; (repeat (with_reducible (refine since_put ?_ ?_ _); rotate_left; focus (first | (simp; done) | (simp; omega) | omega))); first | with_reducible assumption | (refine since_step (by with_reducible assumption) ?_; first | with_reducible assumption | ((repeat (first | with_reducible (exact Since.refl _) | with_reducible assumption | with_reducible (refine Since.drew ?_) | with_reducible (refine Since.drewN ?_ _) | with_reducible (refine Since.alloc ?_ _) | (with_reducible (refine Since.setCell ?_ ?_ _); rotate_left; focus (first | (simp; done) | (simp; omega) | omega)))); done)) | (refine since_step (Since.refl _) ?_; first | with_reducible assumption | ((repeat (first | with_reducible (exact Since.refl _) | with_reducible assumption | with_reducible (refine Since.drew ?_) | with_reducible (refine Since.drewN ?_ _) | with_reducible (refine Since.alloc ?_ _) | (with_reducible (refine Since.setCell ?_ ?_ _); rotate_left; focus (first | (simp; done) | (simp; omega) | omega)) | (with_reducible (refine Since.trans ?_ (by with_reducible assumption))))); done)))) ((go_at_call 39; (with_reducible refine (HA.out _).mono ?_); rintro e w8 ⟨rfl, hS8⟩; have hT8 := hS8; obtain ⟨hc8, hf8, hz8, hb8⟩ := hT8; have hZ8 := hS8.below.size; (try simp at hZ8); (try have hq8 := hz8 wr19.heap.size (by first | with_reducible assumption | (simp; done) | (simp; omega))))); all_goals (rename_i hHeld; have hR19 : Since wr19 _ := hHeld; obtain ⟨hcR19, hfR19, hzR19, hbR19⟩ := hHeld; subst hwr19))
              all_goals (go_wp2_with fail)
              all_goals go_meet
              all_goals refine ⟨_, rfl, rfl, ?_, ?_⟩
              all_goals (first | ((show Since _ _); (repeat (first | with_reducible (exact Since.refl _) | with_reducible assumption | with_reducible (refine Since.drew ?_) | with_reducible (refine Since.drewN ?_ _) | with_reducible (refine Since.alloc ?_ _) | (with_reducible (refine Since.setCell ?_ ?_ _); rotate_left; focus (first | (simp; done) | (simp; omega) | omega)) | (with_reducible (refine Since.trans ?_ (by with_reducible assumption))))); done) | ((repeat (first | with_reducible assumption | (with_reducible (refine qrow _ _ ?_ _ _ _ _ _); focus (first | with_reducible rfl | (simp; done))) | (with_reducible (refine qrow _ _ ?_ _ 0 0 0 0); focus (first | with_reducible rfl | (simp; done))) | with_reducible (refine qput0 ?_ _ _ _ _) | with_reducible (refine Row.drew ?_) | with_reducible (refine Row.alloc ?_ _) | with_reducible (refine Row.since ?_ hS8)))))
            case rest =>
              obtain ⟨q, rfl, rfl, hSx, hQ⟩ := hcut
              have hl := HLK.out wc hSx
              obtain ⟨r0, r1, r2, r3, r4⟩ := qcells hQ
              clear d1 d2 d3 d4
              go_upto_region 21 with fail
              refine wp_named fun wy hwy => ?_
              have hSy : Since wr wy := by subst hwy; exact hSx.alloc _
              have hVr : Row wy wc.heap.size 2 (Sf m1 m2) := by subst hwy; exact srow wc _ rfl _ m1 m2
              have hQy : Row wy q 4 (Qf ux uy vx vy) := by subst hwy; exact hQ.alloc _
              have hqv : q ≠ wc.heap.size := Nat.ne_of_lt r4
              have hbv : wr.heap.size ≤ wc.heap.size := hSx.below.size
              clear hwy hQ hl hSx r0 r1 r2 r3 r4
              generalize wc.heap.size = bv at *
              obtain ⟨r0, r1, r2, r3, r4⟩ := qcells hQy
              obtain ⟨v0, v1, v2⟩ := scells hVr
              have f0 := hVr.2.1 0
              have f1 := hVr.2.1 1
              go_wp2_with (at_mapUpdate; refine wpList_upd_tab rfl _ _ _ 77 rfl _ _ _ rfl rfl rfl (HUP.out _ (by (repeat (first | with_reducible (exact Since.refl _) | with_reducible assumption | with_reducible (refine Since.drew ?_) | with_reducible (refine Since.drewN ?_ _) | with_reducible (refine Since.alloc ?_ _) | (with_reducible (refine Since.setCell ?_ ?_ _); rotate_left; focus (first | (simp; done) | (simp; omega) | omega)) | (with_reducible (refine Since.trans ?_ (by with_reducible assumption))))))) ?_; intro wz hTz hgz)
              have HTZ := Lib.hid hTz
              have hmap := (HTI.out.since (show Since wr (wy.setCell ⟨bv, 1, none⟩ (.int .i32 (m2 + d))) from by (repeat (first | with_reducible (exact Since.refl _) | with_reducible assumption | with_reducible (refine Since.drew ?_) | with_reducible (refine Since.drewN ?_ _) | with_reducible (refine Since.alloc ?_ _) | (with_reducible (refine Since.setCell ?_ ?_ _); rotate_left; focus (first | (simp; done) | (simp; omega) | omega)) | (with_reducible (refine Since.trans ?_ (by with_reducible assumption))))))).map
              have hKz := (hKi.trans (KC.of_since (show Since wr (wy.setCell ⟨bv, 1, none⟩ (.int .i32 (m2 + d))) from by (repeat (first | with_reducible (exact Since.refl _) | with_reducible assumption | with_reducible (refine Since.drew ?_) | with_reducible (refine Since.drewN ?_ _) | with_reducible (refine Since.alloc ?_ _) | (with_reducible (refine Since.setCell ?_ ?_ _); rotate_left; focus (first | (simp; done) | (simp; omega) | omega)) | (with_reducible (refine Since.trans ?_ (by with_reducible assumption)))))))).grown hgz hmap
              have hSz := since_grown (hSi.trans (show Since wr (wy.setCell ⟨bv, 1, none⟩ (.int .i32 (m2 + d))) from by (repeat (first | with_reducible (exact Since.refl _) | with_reducible assumption | with_reducible (refine Since.drew ?_) | with_reducible (refine Since.drewN ?_ _) | with_reducible (refine Since.alloc ?_ _) | (with_reducible (refine Since.setCell ?_ ?_ _); rotate_left; focus (first | (simp; done) | (simp; omega) | omega)) | (with_reducible (refine Since.trans ?_ (by with_reducible assumption))))))) hgz (fun k hk => by injection hk with hk; omega)
              clear hTz hmap hgz
              go_roundw
              case rel => first | exact (⟨j + 1, by omega, by go_num, hKz, hSz, by rw [HTK.out, ← List.append_assoc]; exact HTZ.out⟩) | ((repeat apply Exists.intro); refine ⟨?_, rfl⟩; exact (⟨j + 1, by omega, by go_num, hKz, hSz, by rw [HTK.out, ← List.append_assoc]; exact HTZ.out⟩))
              case measure => (simp only [intOf]; omega)
          · have hjI : ¬ (j : Int) < (nC : Int) - 1 := by omega
            have hfull : (stp C).take j = stp C := List.take_of_length_le (by rw [stp_len, ← HNC.out]; omega)
            have hch : chOf H s = C := chOf_eq HCH.out
            have hKz := hKp.trans hKi
            have HCM := Lib.hid (chs_more HS.out hCH0.out HCH.out)
            rw [hfull] at hTi
            have HTE := Lib.hid (show TabS wr w3.heap.size ((i + 1) * 14640) (stA H L (i + 1)) (stA H M (i + 1 - n)) from by rw [show i + 1 - n = (i - n) + 1 by omega, stA_succ (L := M) (show M[i - n]? = some s from by have h9 := HS.out; rw [List.getElem?_append_right (by rw [← HNL.out]; omega), ← HNL.out] at h9; exact h9), hch, stA_all (L := L) (i := i + 1) (by rw [← HNL.out]; omega), ← stA_all (L := L) (i := i) (by rw [← HNL.out]; omega)]; exact hTi.mono (by omega))
            clear hTi hfull hch hTbp hSp2 hKi
            go_wp2
            go_roundw
            case rel => first | exact (⟨i + 1, by omega, by go_num, hKz, hSi, HTE.out, HCM⟩) | ((repeat apply Exists.intro); refine ⟨?_, rfl⟩; exact (⟨i + 1, by omega, by go_num, hKz, hSi, HTE.out, HCM⟩))
            case measure => (simp only [intOf]; omega)
    · obtain rfl : i = n + m := by omega
      have hin' : ¬ ((n + m : Nat) : Int) < ((n + m : Nat) : Int) := by omega
      have hin2 : ¬ (n : Int) + (m : Int) < (n : Int) + (m : Int) := by omega
      rw [stA_all (L := L) (by rw [← HNL.out]; omega), show n + m - n = m by omega, stA_all (L := M) (by rw [← HNM.out]; omega)] at hTb
      obtain ⟨V, hMq, hTv, hSp, hl0, hl1⟩ := hTb
      have hso := sn_sorted w3.heap.size _ V wr hMq hSp (by omega) (fun a b v hv => by
        obtain ⟨⟨a1, a2⟩, a3, a4⟩ := tabV_le hTv hv hl0 hl1
        have h9 : ((n + m) * 14640 : Nat) ≤ 120 * 14640 := Nat.mul_le_mul_right _ h
        omega)
      have HSO := Lib.hid hso; have HTV := Lib.hid hTv
      clear hso hTv hMq hSp hl0 hl1
      go_wp2_with (go_at_call 40; (with_reducible refine HSO.out.mono ?_); rintro e w6 ⟨v6, E, rfl, hO6, hS6, hE6, hm6⟩)
      go_ret2
      have hedge := tab_edge HTV.out hE6 hm6
      have hall : ∀ l ∈ L ++ M, ChL l H (chOf H l) := fun l hl => by
        obtain ⟨C, hC⟩ := hCH0.out l (by rw [List.take_of_length_le (by rw [← HN.out]; exact Nat.le_refl _)]; exact hl)
        rw [chOf_eq hC]; exact hC
      exact ⟨hS.trans hS6, .inr (.inr ⟨by rw [← HNL.out, ← HNM.out]; omega, HG.out, v6, E, rfl, OwnG.lower' hO6 hS.below.size, H, HH.out, chOf H, hall, hedge⟩)⟩
end Go.Proofs.YtcfghkphkmoikaaGreat
