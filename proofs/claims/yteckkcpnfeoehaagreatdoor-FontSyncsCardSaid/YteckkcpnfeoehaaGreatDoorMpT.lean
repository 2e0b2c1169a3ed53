/-
  Texts of this seat, put together: each with its own head.
-/
import Derived.Test.YteckkcpnfeoehaaGreatDoorMpS
import Derived.Test.YteckkcpnfeoehaaGreatDoorFnJ
import Derived.Test.YteckkcpnfeoehaaGreatDoorFnI
import Derived.Test.YteckkcpnfeoehaaGreatDoorMpO
import Derived.Test.YteckkcpnfeoehaaGreatDoorFoE

/-
  Layer 9: a font with memory of its own (the program's 'fresh').
-/
namespace Go.Proofs.YteckkcpnfeoehaaGreatDoor
set_option maxRecDepth 100000
open Go.RowKit Go.ChangeShapes Go.WideShapes Go.Deep
set_option linter.unusedVariables false
set_option linter.unusedSimpArgs false

theorem mt_clone (A : Option Addr) (n c : Nat) (MM : List (Int × Int)) (w : World) (hr : RdG 2 mtL w w.heap.size A MM) (hn : n = MM.length) (hL : n ≤ 100000) :
    Calls Tryz.prog 86 #[.slice A n c] w fun e w' => ∃ A' c', e = .returned (.slice A' n c') ∧ OwnG 89 2 mtL w' w.heap.size (.slice A' n c') MM ∧ Since w w' := by
  subst hn
  have hnil := fun (w : World) (a : Option Addr) (n c : Nat) => Go.Lib.run_eql_slice_nil (P := Tryz.prog) w 27 89 a n c 0 0 Tryz.underlying27
  cases A with
  | none =>
    have h0 : MM = [] := by
      rcases MM with _ | ⟨a, l⟩
      · rfl
      · obtain ⟨b, o, h, _⟩ := hr (by simp)
        cases h
    subst h0
    go_enter Tryz.func86, Tryz.ntmps86
    go_wp2_with fail
    go_ret
    exact ⟨_, _, rfl, OwnG.nil _ _ _ _ _, by (repeat (first | with_reducible (exact Since.refl _) | with_reducible assumption | with_reducible (refine Since.drew ?_) | with_reducible (refine Since.drewN ?_ _) | with_reducible (refine Since.alloc ?_ _) | (with_reducible (refine Since.setCell ?_ ?_ _); rotate_left; focus (first | (simp; done) | (simp; omega) | omega)) | (with_reducible (refine Since.trans ?_ (by with_reducible assumption)))))⟩
  | some a =>
    have HR := Lib.hid hr
    clear hr
    go_enter Tryz.func86, Tryz.ntmps86
    go_wp2_with (at_builtin; refine wpList_append_g rfl _ _ 27 89 rfl (by omega) mtL_len mtL_one 16 Tryz.underlying27 infoMt w.heap.size _ [] rfl (OwnG.empty _ w w.heap.size _ rfl (Nat.le_refl _)) w.heap.size _ _ MM rfl (HR.out.since (Nat.le_refl _) ((Since.refl w).alloc _)) (by simp only [List.length_nil]; omega) (by simp only [List.length_nil, maxLen]; omega) (by simp) ?_; intro v7 w7 hO7 hg7 hb7)
    have hS7 : Since w w7 := since_grown ((Since.refl w).alloc _) hg7 (fun k e => (hb7 k e).1)
    rw [List.nil_append] at hO7
    obtain ⟨A8, c8, rfl, _, _⟩ := OwnG.rd (by omega) mtL_len hO7
    go_ret
    exact ⟨_, _, rfl, hO7, hS7⟩
theorem OwnT.made {w : World} {base : Nat} {v : Value} {n : Nat} (h : OwnG 49 2 thL w base v (List.replicate n ⟨ByteArray.empty, none, 0, 0⟩)) : OwnT w base v (List.replicate n ⟨ByteArray.empty, []⟩) := by
  refine ⟨_, by simp, h, fun j x T h1 h2 => ?_⟩
  obtain ⟨_, e1⟩ := List.getElem?_eq_some_iff.1 h1
  obtain ⟨_, e2⟩ := List.getElem?_eq_some_iff.1 h2
  rw [List.getElem_replicate] at e1 e2
  subst e1 e2
  exact ⟨rfl, OwnG.nil _ _ _ _ _⟩
/-- The first ones are there. -/
def upT (TT : List Tb) (j : Nat) : List Tb := TT.take j ++ List.replicate (TT.length - j) ⟨ByteArray.empty, []⟩
theorem upT_zero (TT : List Tb) : upT TT 0 = List.replicate TT.length ⟨ByteArray.empty, []⟩ := by unfold upT; simp
theorem upT_all (TT : List Tb) : upT TT TT.length = TT := by unfold upT; simp
theorem upT_len {TT : List Tb} {j : Nat} (h : j ≤ TT.length) : (upT TT j).length = TT.length := by unfold upT; simp; omega
theorem upT_next {TT : List Tb} {j : Nat} {T : Tb} (hj : TT[j]? = some T) : (upT TT j).set j T = upT TT (j + 1) := by
  have hl : j < TT.length := by
    rcases Nat.lt_or_ge j TT.length with h | h
    · exact h
    · rw [List.getElem?_eq_none h] at hj; cases hj
  have hT : TT[j] = T := by rw [List.getElem?_eq_getElem hl] at hj; exact Option.some.inj hj
  have hk : (TT.take j).length = j := by rw [List.length_take]; omega
  unfold upT
  rw [List.set_append, if_neg (by omega), hk, Nat.sub_self, show TT.length - j = (TT.length - (j + 1)) + 1 by omega, List.replicate_succ, List.set_cons_zero, List.take_succ_eq_append_getElem hl, hT]
  simp
def upG (GG : List (List Int)) (j : Nat) : List (List Int) := GG.take j ++ List.replicate (GG.length - j) []
theorem upG_zero (GG : List (List Int)) : upG GG 0 = List.replicate GG.length [] := by unfold upG; simp
theorem upG_all (GG : List (List Int)) : upG GG GG.length = GG := by unfold upG; simp
theorem upG_len {GG : List (List Int)} {j : Nat} (h : j ≤ GG.length) : (upG GG j).length = GG.length := by unfold upG; simp; omega
theorem upG_next {GG : List (List Int)} {j : Nat} {L : List Int} (hj : GG[j]? = some L) : (upG GG j).set j L = upG GG (j + 1) := by
  have hl : j < GG.length := by
    rcases Nat.lt_or_ge j GG.length with h | h
    · exact h
    · rw [List.getElem?_eq_none h] at hj; cases hj
  have hT : GG[j] = L := by rw [List.getElem?_eq_getElem hl] at hj; exact Option.some.inj hj
  have hk : (GG.take j).length = j := by rw [List.length_take]; omega
  unfold upG
  rw [List.set_append, if_neg (by omega), hk, Nat.sub_self, show GG.length - j = (GG.length - (j + 1)) + 1 by omega, List.replicate_succ, List.set_cons_zero, List.take_succ_eq_append_getElem hl, hT]
  simp
theorem ownbl_heap {w : World} {base g n c : Nat} {GG : List (List Int)} (h : OwnBL w base (.slice (some ⟨g, 0, none⟩) n c) GG) : (∃ cs z, w.heap[g]? = some (Obj.cells cs 34 z)) ∧ base ≤ g := by
  obtain ⟨hs, hl, ho, _⟩ := h
  exact heap_of ho
theorem ownt_nighB {w w' : World} {base b2 g n c : Nat} {v : Value} {TT : List Tb} {GG : List (List Int)} (h : OwnT w base v TT) (k : Nigh g w w') (hG : OwnBL w b2 (.slice (some ⟨g, 0, none⟩) n c) GG) : OwnT w' base v TT := by
  obtain ⟨⟨cs, z, hh⟩, _⟩ := ownbl_heap hG
  exact h.keep1 (fun b hb hlt => k.1.2 b hlt hb) hh (by decide) (by decide)
set_option maxRecDepth 1000000 in
set_option maxHeartbeats 64000000 in
theorem fn_fresh (x : Fh) (F : Fn9) (C : Array Value) (hC : C = fnV x F) (w : World) (hR : FnR w w.heap.size x F) (ht : F.TT.length ≤ 100000) (hd : ∀ T, T ∈ F.TT → T.data.length ≤ 1000000) (hm : F.MM.length ≤ 100000) (hg : F.GG.length ≤ 100000) (hgd : ∀ L, L ∈ F.GG → L.length ≤ 1000000) :
    Calls Tryz.prog 42 #[.agg C] w (CopyP9 F w) := by
  obtain ⟨TT, H, M, MM, K, GG⟩ := F
  obtain ⟨hT1, hM1, hG1⟩ := hR
  replace hT1 : RdTL w w.heap.size x.At TT := hT1
  replace hM1 := rdm_of hM1
  replace hM1 : RdG 2 mtL w w.heap.size x.Am MM := hM1
  replace hG1 : RdBL w w.heap.size x.Ag GG := hG1
  replace hC : C = (fnC x TT.length H M MM.length K GG.length).toArray := hC
  replace hgd : ∀ L, L ∈ GG → L.length ≤ 1000000 := hgd
  replace hd : ∀ T, T ∈ TT → T.data.length ≤ 1000000 := hd
  replace hg : GG.length ≤ 100000 := hg
  replace ht : TT.length ≤ 100000 := ht
  replace hm : MM.length ≤ 100000 := hm
  have HBX := Lib.hid (fun (t : TypeId) => (fn_box (x := x) (nt := TT.length) (h := H) (m := M) (nm := MM.length) (ct := K) (ng := GG.length) w w.heap.size rfl t))
  have HC := Lib.hid hC
  obtain ⟨xAt, xct, xAm, xcm, xAg, xcg⟩ := x
  have HT := Lib.hid hT1
  have HG := Lib.hid hG1
  have HGD := Lib.hid hgd
  have HTD := Lib.hid hd
  obtain ⟨N, hN⟩ : ∃ N, N = GG.length := ⟨_, rfl⟩
  have HN := Lib.hid hN
  have hNI : (N : Int) ≤ 100000 := by omega
  obtain ⟨n, hn⟩ : ∃ n, n = TT.length := ⟨_, rfl⟩
  have HN2 := Lib.hid hn
  have hnI : (n : Int) ≤ 100000 := by omega
  obtain ⟨nm, hnm⟩ : ∃ nm, nm = MM.length := ⟨_, rfl⟩
  have HNM := Lib.hid hnm
  have HCL := Lib.hid (fun (w2 : World) (h2 : Since w w2) => mt_clone xAm nm xcm MM w2 (hM1.on h2) hnm (by omega))
  rw [← hN, ← hn, ← hnm] at HBX HC
  have hmb : 40 * n ≤ 281474976710656 := by omega
  have hmb2 : 24 * N ≤ 281474976710656 := by omega
  have hml1 : n ≤ maxLen := by simp only [maxLen]; omega
  have hml2 : N ≤ maxLen := by simp only [maxLen]; omega
  clear hT1 hM1 hG1 hC hgd hg hd ht hm hN hn hnm
  go_enter Tryz.func42, Tryz.ntmps42
  go_upto_region 1 with fail
  refine wp_named fun w1 hw1 => ?_
  have hS1 : Since w w1 := by subst hw1; (repeat (first | with_reducible (exact Since.refl _) | with_reducible assumption | with_reducible (refine Since.drew ?_) | with_reducible (refine Since.drewN ?_ _) | with_reducible (refine Since.alloc ?_ _) | (with_reducible (refine Since.setCell ?_ ?_ _); rotate_left; focus (first | (simp; done) | (simp; omega) | omega)) | (with_reducible (refine Since.trans ?_ (by with_reducible assumption)))))
  have hB1 : BoxL w1 w.heap.size (fnC ⟨xAt, xct, xAm, xcm, xAg, xcg⟩ n H M nm K N) := by subst hw1; rw [HC.out]; exact (HBX.out _).alloc _
  have hB2 : BoxL w1 (w.heap.size + 1) (fnC zX 0 zH zM 0 0 0) := by subst hw1; exact new_fn _ (w.heap.size + 1) (by simp) _
  clear hw1 HBX HC
  have hSS : CpS ⟨xAt, xct, xAm, xcm, xAg, xcg⟩ n H M nm K N w w1 := ⟨hS1, hB1, hB2⟩
  have c0 := hB1.cell 0 (v := .slice xAt n xct) rfl
  have hz1 := hSS.lt2
  clear hS1 hB1 hB2
  go_wp2_with (at_make; refine wpList_make_g (enc := thL) (k := 2) (by rfl) _ _ _ 49 (by rfl) (by omega) thL_len 40 ⟨ByteArray.empty, none, 0, 0⟩ Tryz.underlying22 infoTb2 n (by rfl) (by rfl) hmb hml1 (w.heap.size + 2) hz1 ?_; intro w2 hO2 hg2; have hk2 : Since w1 w2 := since_grown (Since.refl w1) hg2 (fun q hq => by cases hq); have c0 := (hk2.1 _ 0 (by omega)).trans c0)
  obtain ⟨g1, hg1⟩ : ∃ g1, g1 = w1.heap.size := ⟨_, rfl⟩
  rw [← hg1] at hO2 ⊢
  have hO3 : OwnT w2 (w.heap.size + 2) (.slice (some ⟨g1, 0, none⟩) n n) (upT TT 0) := by rw [upT_zero, ← HN2.out]; exact OwnT.made hO2
  have hSS2 := hSS.since hk2
  have hg1b : w.heap.size + 2 ≤ g1 := by omega
  have HSS := Lib.hid hSS2
  clear hO2 hg2 hk2 hg1 hz1 hSS hSS2 c0
  go_loopw [16] (fun y wr => ∃ j : Nat, j ≤ n ∧ y = .int .i64 (j : Int) ∧ CpS ⟨xAt, xct, xAm, xcm, xAg, xcg⟩ n H M nm K N w wr ∧ OwnT wr (w.heap.size + 2) (.slice (some ⟨g1, 0, none⟩) n n) (upT TT j)) (fun y _ => n - (intOf y).toNat)
  case atStart => exact ⟨0, by omega, rfl, HSS.out, hO3⟩
  case round =>
    obtain ⟨j, hj, rfl, hSr, hOr⟩ := hrel
    clear hO3 HSS
    have hSrs := hSr.s
    have hszr := hSr.lt2
    by_cases hjn : j < n
    · have hjn' : (j : Int) < n := by omega
      have hj0 : (0 : Int) ≤ (j : Int) := by omega
      have hjL : j < TT.length := by rw [← HN2.out]; exact hjn
      have hL : TT[j]? = some TT[j] := List.getElem?_eq_getElem hjL
      have hml := HTD.out _ (List.mem_of_getElem? hL)
      have HNX := Lib.hid (upT_next hL)
      obtain ⟨b, o, A', c', e1, hb, h0, h1, hr⟩ := (HT.out.on hSrs).row hL
      generalize TT[j] = T at *
      obtain ⟨s, L⟩ := T
      subst e1
      obtain ⟨m, hm0⟩ : ∃ m, m = L.length := ⟨_, rfl⟩
      replace hml : m ≤ 1000000 := by rw [hm0]; exact hml
      replace h1 : wr.cell? ⟨b, o + j * 2 + 1, none⟩ = some (.slice A' m c') := by rw [hm0]; exact h1
      have HCP := Lib.hid (fun (w2 : World) (h2 : Since wr w2) => bt_clone A' m c' L w2 (RdG.on hr h2) hm0 (by omega))
      have HSR := Lib.hid hSr
      have HOR := Lib.hid hOr
      have hgl := hOr.lt.2
      have HLU := Lib.hid (show j < (upT TT j).length by rw [upT_len (by omega)]; exact hjL)
      clear hL hjL hm0 hr hSr hOr
      go_upto_region 5 with fail
      refine wp_named fun w8 hw8 => ?_
      obtain ⟨t9, ht9⟩ : ∃ t9, t9 = wr.heap.size := ⟨_, rfl⟩
      have hS8 : Since wr w8 := by subst hw8; (repeat (first | with_reducible (exact Since.refl _) | with_reducible assumption | with_reducible (refine Since.drew ?_) | with_reducible (refine Since.drewN ?_ _) | with_reducible (refine Since.alloc ?_ _) | (with_reducible (refine Since.setCell ?_ ?_ _); rotate_left; focus (first | (simp; done) | (simp; omega) | omega)) | (with_reducible (refine Since.trans ?_ (by with_reducible assumption)))))
      have hU8 : Two w8 t9 (.string s) (.slice A' m c') := by subst hw8; exact two_new wr t9 ht9 _ _ _
      rw [← ht9] at hgl hszr ⊢
      clear hw8 h0 h1 ht9
      obtain ⟨u1, u2, _, _, u5⟩ := id hU8
      have hz58 : w.heap.size + 2 ≤ w8.heap.size := by omega
      have gn9 : ¬ g1 = t9 := by omega
      go_region_held3 (fun w' => w'.cell? ⟨t9, 0, none⟩ = some (.string s) ∧ w'.cell? ⟨t9, 1, none⟩ = some (.slice A' m c')) ((first | exact ⟨u1, u2⟩ | exact ⟨y1, y2⟩ | exact ⟨by rw [cell_set, if_neg (by omega), cell_set, if_neg (by omega)]; exact y1, by rw [cell_set, if_neg (by omega), cell_set, if_neg (by omega)]; exact y2⟩)) ((go_at_call 85; (with_reducible refine (HCP.out _ (by (repeat (first | with_reducible (exact Since.refl _) | with_reducible assumption | with_reducible (refine Since.drew ?_) | with_reducible (refine Since.drewN ?_ _) | with_reducible (refine Since.alloc ?_ _) | (with_reducible (refine Since.setCell ?_ ?_ _); rotate_left; focus (first | (simp; done) | (simp; omega) | omega)) | (with_reducible (refine Since.trans ?_ (by with_reducible assumption))))))).mono ?_); rintro e w9 ⟨v9', rfl, hO9, hS9⟩; have hX9 : Since w8 w9 := (by (repeat (first | with_reducible (exact Since.refl _) | with_reducible assumption | with_reducible (refine Since.drew ?_) | with_reducible (refine Since.drewN ?_ _) | with_reducible (refine Since.alloc ?_ _) | (with_reducible (refine Since.setCell ?_ ?_ _); rotate_left; focus (first | (simp; done) | (simp; omega) | omega)) | (with_reducible (refine Since.trans ?_ (by with_reducible assumption)))))); have hR9 := hS8.trans hX9; obtain ⟨A9, c9, rfl, _, _⟩ := OwnG.rd (by omega) byL_len hO9; have hO9b := OwnG.low (base' := w.heap.size + 2) hO9 (by first | exact hz58 | (simp; exact hz58)); have hPT := (HOR.out.since hR9).put HLU.out (s := s) hO9b; have HPT := Lib.hid hPT; obtain ⟨⟨s0, p1⟩, ⟨A0, m0, k0, p2⟩, p3, p4, p5⟩ := tb_cells (HOR.out.since hR9) HLU.out; clear hPT; obtain ⟨y1, y2, _, _, y5⟩ := id (hU8.since hX9)))
      all_goals go_wp2_with fail
      all_goals go_roundw
      case measure => simp [intOf]; omega
      case rel => first | exact ⟨j + 1, by omega, by first | rfl | go_num | simp, (HSR.out.since hR9).nigh (((Nigh.refl g1 w9).set _ _).set _ _) hg1b, by rw [← HNX.out]; exact HPT.out⟩ | ((repeat apply Exists.intro); refine ⟨?_, rfl⟩; exact ⟨j + 1, by omega, by first | rfl | go_num | simp, (HSR.out.since hR9).nigh (((Nigh.refl g1 w9).set _ _).set _ _) hg1b, by rw [← HNX.out]; exact HPT.out⟩)
    · obtain rfl : n = j := by omega
      have hjn' : ¬ (n : Int) < (n : Int) := by omega
      have eT : upT TT n = TT := by rw [HN2.out]; exact upT_all TT
      rw [eT] at hOr
      have k16 := hSr.b.cell 16 (v := .slice xAg N xcg) rfl
      have hbl := hSr.b.lt
      clear eT
      go_upto_region 8 with (at_make; refine wpList_make_g (enc := hdL) (k := 1) (by rfl) _ _ _ 34 (by rfl) (by omega) hdL_len 24 ⟨none, 0, 0⟩ Tryz.underlying28 infoBs2 N (by rfl) (by rfl) hmb2 hml2 (w.heap.size + 2) hszr ?_; intro w2 hO2 hg2; have hk2 : Since wr w2 := since_grown (Since.refl wr) hg2 (fun q hq => by cases hq); have k16 := (hk2.1 _ 16 hbl).trans k16)
      obtain ⟨g2, hg2e⟩ : ∃ g2, g2 = wr.heap.size := ⟨_, rfl⟩
      rw [← hg2e] at hO2 ⊢
      have hO3 : OwnBL w2 (w.heap.size + 2) (.slice (some ⟨g2, 0, none⟩) N N) (upG GG 0) := by rw [upG_zero, ← HN.out]; exact OwnBL.made hO2
      have hSS2 := hSr.since hk2
      have hT2 := hOr.since hk2
      have hg2b : w.heap.size + 2 ≤ g2 := by omega
      have HSS := Lib.hid hSS2
      have HT2 := Lib.hid hT2
      clear hO2 hg2 hk2 hg2e hSr hOr hSS2 hT2 hbl hSrs hszr
      go_wp2_with fail
      go_loopw [38] (fun y wr => ∃ j : Nat, j ≤ N ∧ y = .int .i64 (j : Int) ∧ CpS ⟨xAt, xct, xAm, xcm, xAg, xcg⟩ n H M nm K N w wr ∧ OwnT wr (w.heap.size + 2) (.slice (some ⟨g1, 0, none⟩) n n) TT ∧ OwnBL wr (w.heap.size + 2) (.slice (some ⟨g2, 0, none⟩) N N) (upG GG j)) (fun y _ => N - (intOf y).toNat)
      case atStart => exact ⟨0, by omega, rfl, HSS.out, HT2.out, hO3⟩
      case round =>
        obtain ⟨j, hj, rfl, hSr, hTr, hOr⟩ := hrel
        clear hO3 HSS HT2 k16
        have hSrs := hSr.s
        have hszr := hSr.lt2
        by_cases hjn : j < N
        · have hjn2 : (j : Int) < N := by omega
          have hj0 : (0 : Int) ≤ (j : Int) := by omega
          have hjL : j < GG.length := by rw [← HN.out]; exact hjn
          have hL : GG[j]? = some GG[j] := List.getElem?_eq_getElem hjL
          have hml := HGD.out _ (List.mem_of_getElem? hL)
          have HNX := Lib.hid (upG_next hL)
          obtain ⟨b, o, A', c', e1, hb, h0, h1, hr⟩ := (HG.out.on hSrs).row hL
          generalize GG[j] = L at *
          subst e1
          obtain ⟨m, hm0⟩ : ∃ m, m = L.length := ⟨_, rfl⟩
          rw [← hm0] at h0 h1 hml
          have HCP := Lib.hid (fun (w2 : World) (h2 : Since wr w2) => bt_clone A' m c' L w2 (RdG.on hr h2) hm0 (by omega))
          have HSR := Lib.hid hSr
          have HTR := Lib.hid hTr
          have HOR := Lib.hid hOr
          have HLU := Lib.hid (show j < (upG GG j).length by rw [upG_len (by omega)]; exact hjL)
          clear hL hjL hm0 hr hSr hOr hTr h1
          go_wp2_with (go_at_call 85; (with_reducible refine (HCP.out _ (by (repeat (first | with_reducible (exact Since.refl _) | with_reducible assumption | with_reducible (refine Since.drew ?_) | with_reducible (refine Since.drewN ?_ _) | with_reducible (refine Since.alloc ?_ _) | (with_reducible (refine Since.setCell ?_ ?_ _); rotate_left; focus (first | (simp; done) | (simp; omega) | omega)) | (with_reducible (refine Since.trans ?_ (by with_reducible assumption))))))).mono ?_); rintro e w9 ⟨v9', rfl, hO9, hS9⟩; have hX9 : Since wr w9 := (by (repeat (first | with_reducible (exact Since.refl _) | with_reducible assumption | with_reducible (refine Since.drew ?_) | with_reducible (refine Since.drewN ?_ _) | with_reducible (refine Since.alloc ?_ _) | (with_reducible (refine Since.setCell ?_ ?_ _); rotate_left; focus (first | (simp; done) | (simp; omega) | omega)) | (with_reducible (refine Since.trans ?_ (by with_reducible assumption)))))); obtain ⟨A9, c9, rfl, _, _⟩ := OwnG.rd (by omega) byL_len hO9; have hO9b := OwnG.low (base' := w.heap.size + 2) hO9 (by first | exact hszr | (simp; exact hszr)); have hPT := OwnBL.put (HOR.out.since hX9) HLU.out hO9b; have HPT := Lib.hid hPT; obtain ⟨⟨A0, m0, k0, p2⟩, p3, p4, p5⟩ := OwnBL.cell (HOR.out.since hX9) HLU.out; clear hPT)
          go_roundw
          case measure => simp [intOf]; omega
          case rel => first | exact ⟨j + 1, by omega, by first | rfl | go_num | simp, (HSR.out.since hX9).nigh ((Nigh.refl g2 w9).set _ _) hg2b, ownt_nighB (HTR.out.since hX9) ((Nigh.refl g2 w9).set _ _) (HOR.out.since hX9), by rw [← HNX.out]; exact HPT.out⟩ | ((repeat apply Exists.intro); refine ⟨?_, rfl⟩; exact ⟨j + 1, by omega, by first | rfl | go_num | simp, (HSR.out.since hX9).nigh ((Nigh.refl g2 w9).set _ _) hg2b, ownt_nighB (HTR.out.since hX9) ((Nigh.refl g2 w9).set _ _) (HOR.out.since hX9), by rw [← HNX.out]; exact HPT.out⟩)
        · obtain rfl : N = j := by omega
          have hjn2 : ¬ (N : Int) < (N : Int) := by omega
          have eG : upG GG N = GG := by rw [HN.out]; exact upG_all GG
          rw [eG] at hOr
          have k14 := hSr.b.cell 14 (v := .slice xAm nm xcm) rfl
          have HSR := Lib.hid hSr
          have HTR := Lib.hid hTr
          have HOR := Lib.hid hOr
          clear eG hSr hTr hOr
          go_upto_region 14 with (go_at_call 86; (with_reducible refine (HCL.out _ hSrs).mono ?_); rintro e w9 ⟨A9, c9, rfl, hO9, hS9⟩; have hB9 := (HSR.out.since hS9).b; have p0 := hB9.cell 0 (v := .slice xAt n xct) rfl; have p14 := hB9.cell 14 (v := .slice xAm nm xcm) rfl; have p16 := hB9.cell 16 (v := .slice xAg N xcg) rfl; have f0 := hB9.frz 0; have f14 := hB9.frz 14; have f16 := hB9.frz 16; have hbl := hB9.lt)
          refine wp_named fun wA hwA => ?_
          have hBA : BoxL wA w.heap.size (fnC ⟨some ⟨g1, 0, none⟩, n, A9, c9, some ⟨g2, 0, none⟩, N⟩ n H M nm K N) := by subst hwA; exact fn_put14 (fn_put16 (fn_put0 hB9 (some ⟨g1, 0, none⟩) n n) (some ⟨g2, 0, none⟩) N N) A9 nm c9
          have hNA : Nigh w.heap.size w9 wA := by subst hwA; exact (((Nigh.refl w.heap.size w9).set _ _).set _ _).set _ _
          clear hwA hB9 p0 p14 p16 f0 f14 f16 k14
          have hS9w := hSrs.trans hS9
          have hSA : Since w wA := hNA.2 w hS9w (Nat.le_refl _)
          have hkA : ∀ b, w.heap.size + 2 ≤ b → b < w9.heap.size → wA.heap[b]? = w9.heap[b]? := fun b hb hl => hNA.1.2 b hl (by omega)
          have hTA := (HTR.out.since hS9).keepB hkA
          have hGA := (HOR.out.since hS9).keepB hkA
          have hMA := OwnG.keep (OwnG.low (base' := w.heap.size + 2) hO9 hszr) hkA
          have hRA : BoxL wA (w.heap.size + 1) (fnC zX 0 zH zM 0 0 0) := (HSR.out.since hS9).r.nigh hNA (by omega)
          have HPO := Lib.hid (fun (w' : World) (hN : Nigh (w.heap.size + 1) wA w') => copy_post9 (H := H) (M := M) (K := K) hTA hMA hGA hSA hN HN2.out HNM.out HN.out)
          clear hTA hGA hMA hkA hS9w hNA
          go_wp2_with (first | (refine wp_fn_load rfl _ rfl (by rfl) (by with_reducible exact hBA) ?_) | (refine wp_fn_store rfl _ _ rfl (by rfl) (by with_reducible exact hRA) ⟨some ⟨g1, 0, none⟩, n, A9, c9, some ⟨g2, 0, none⟩, N⟩ n H M nm K N (by rfl) ?_; intro wz hz hNz))
          refine ret_agg (P := Tryz.prog) Tryz.results42 (by rfl) hz.1 Tryz.underlying30 rfl infoFn rfl (HPO.out _ hNz)
end Go.Proofs.YteckkcpnfeoehaaGreatDoor

/-
  Layer 9: a font whose tables are made to tell what it tells (no walk but the wrappers of what layer 5 puts).
-/
namespace Go.Proofs.YteckkcpnfeoehaaGreatDoor
set_option maxRecDepth 100000
open Go.RowKit Go.ChangeShapes Go.WideShapes Go.Deep
set_option linter.unusedVariables false
set_option linter.unusedSimpArgs false

abbrev sevM (m : Mx9) : Nat → Int := seven m.g m.p m.c m.q m.r m.e m.d
def phEL (L : List Int) (h : Hd9) : Int := phE L.length h.em h.a h.b h.c h.d
def phB (L : List Int) (h : Hd9) : List Int := (List.range L.length).map (phF (fnL L) h.em h.a h.b h.c h.d h.l)
def mpEL (L : List Int) (m : Mx9) : Int := mpE L.length (sevM m)
def mpB (L : List Int) (m : Mx9) : List Int := (List.range L.length).map (mpF (fnL L) (sevM m) 7)
def pcEL (L : List Int) (x : Int) : Int := pcE L.length x
def pcB (L : List Int) (x : Int) : List Int := (List.range L.length).map (lay2 (fnL L) 34 x)
theorem phB_len (L : List Int) (h : Hd9) : (phB L h).length = L.length := by unfold phB; simp
theorem mpB_len (L : List Int) (m : Mx9) : (mpB L m).length = L.length := by unfold mpB; simp
theorem pcB_len (L : List Int) (x : Int) : (pcB L x).length = L.length := by unfold pcB; simp
/-- The head, the maxp of a font that is made to tell what it tells. -/
def syH (F : Fn9) : Hd9 := ⟨F.h.em, F.h.a, F.h.b, F.h.c, F.h.d, F.h.l || (wrE false (pl9 F.GG) (F.GG.length + 1) != 0)⟩
def syM (F : Fn9) : Mx9 := ⟨(F.GG.length : Int), F.m.p, F.m.c, F.m.q, F.m.r, F.m.e, F.m.d⟩
def syE (F : Fn9) : Int := if three9 F.TT = false then 8 else if phEL (dat9 F.TT tgHead) (syH F) ≠ 0 then phEL (dat9 F.TT tgHead) (syH F) else if mpEL (dat9 F.TT tgMaxp) (syM F) ≠ 0 then mpEL (dat9 F.TT tgMaxp) (syM F) else pcEL (dat9 F.TT tgHhea) F.ct
/-- The tables, the first of the three changed. -/
def syU (TT : List Tb) (D0 D1 D2 : List Int) : Nat → List Tb
  | 0 => TT
  | 1 => withT TT ⟨tgHead, D0⟩
  | 2 => withT (withT TT ⟨tgHead, D0⟩) ⟨tgMaxp, D1⟩
  | _ => withT (withT (withT TT ⟨tgHead, D0⟩) ⟨tgMaxp, D1⟩) ⟨tgHhea, D2⟩
def syT (F : Fn9) : List Tb := syU F.TT (phB (dat9 F.TT tgHead) (syH F)) (mpB (dat9 F.TT tgMaxp) (syM F)) (pcB (dat9 F.TT tgHhea) F.ct) 3
def syF (F : Fn9) : Fn9 := ⟨syT F, syH F, syM F, F.MM, F.ct, F.GG⟩
def sync9 (F : Fn9) : Int × Fn9 := if syE F ≠ 0 then (syE F, none9) else (0, syF F)
theorem nw_rdb {w : World} {B n : Nat} {A : Option Addr} {f : Nat → Int} (h : Nw w B A n (U8 f)) : RdB w w.heap.size A ((List.range n).map f) := rdb_map h.rd
/-- A row that reads, in none of the blocks below B, nor in q. -/
def RdN (w : World) (B q : Nat) (A : Option Addr) (L : List Int) : Prop := RdB w w.heap.size A L ∧ (0 < L.length → ∀ b o, A = some ⟨b, o, none⟩ → B ≤ b ∧ b ≠ q)
theorem RdN.since {w w' : World} {B q : Nat} {A : Option Addr} {L : List Int} (h : RdN w B q A L) (k : Since w w') : RdN w' B q A L := ⟨RdG.on h.1 k, h.2⟩
theorem RdN.nigh {w w' : World} {B q r : Nat} {A : Option Addr} {L : List Int} (h : RdN w B q A L) (k : Nigh r w w') (hr : r = q ∨ r < B) : RdN w' B q A L := by
  refine ⟨fun hn => ?_, h.2⟩
  obtain ⟨b, o, e, hb, hc⟩ := h.1 hn
  obtain ⟨h1, h2⟩ := h.2 hn b o e
  refine ⟨b, o, e, Nat.lt_of_lt_of_le hb k.1.1, fun j s hj i hi => ?_⟩
  rw [← hc j s hj i hi]
  have := k.1.2 b hb (by rcases hr with rfl | hr <;> omega)
  simp only [World.cell?, this]
theorem nw_rdn {w : World} {B0 B q n : Nat} {A : Option Addr} {f : Nat → Int} (h : Nw w B0 A n (U8 f)) (hB : B ≤ B0) (hq : q < B0) : RdN w B q A ((List.range n).map f) := by
  refine ⟨nw_rdb h, fun hn b o e => ?_⟩
  obtain ⟨g, e2, hb, _⟩ := h (by simpa using hn)
  rw [e2] at e
  injection e with e
  injection e with e
  subst e
  exact ⟨by omega, by omega⟩
theorem ownb_rdn {w : World} {B q : Nat} {A : Option Addr} {n c : Nat} {L : List Int} {cs : Array Value} {z : Nat × Nat} (h : OwnB w B (.slice A n c) L) (hq : w.heap[q]? = some (Obj.cells cs 34 z)) : RdN w B q A L := by
  obtain ⟨A', c', e, _, hr⟩ := OwnG.rd (by omega) byL_len h
  injection e with e1 _ _
  refine ⟨by rw [e1]; exact hr, fun hn b o e2 => ?_⟩
  rcases h.2 with ⟨h0, h1⟩ | ⟨g, cap, cur, h0, hb, _⟩
  · injection h0 with h0 _ _
    rw [h0] at e2; cases e2
  · injection h0 with h0 _ _
    rw [h0] at e2
    injection e2 with e2
    injection e2 with e2 e3
    subst e2
    refine ⟨hb, fun e4 => own_ne h hq (by decide) ?_⟩
    rw [h0, e4]; rfl
theorem RdN.sub {w w' wc wy : World} {q : Nat} {A : Option Addr} {L : List Int} (h : ∀ B q, B ≤ wy.heap.size → q < wy.heap.size → RdN w' B q A L) (h1 : wc.heap.size ≤ wy.heap.size) (h2 : w.heap.size + 2 ≤ wc.heap.size) (h3 : q < wy.heap.size) : RdN w' (w.heap.size + 2) q A L := h _ _ (by omega) h3
/-- What layer 5 puts, of lists. -/
theorem fn_puthead (A : Option Addr) (c n : Nat) (L : List Int) (h : Hd9) (w : World) (hT : TabB w) (hr : RdB w w.heap.size A L) (hn : n = L.length) (hi : In64 h.em ∧ In64 h.a ∧ In64 h.b ∧ In64 h.c ∧ In64 h.d) (hx : L.length ≤ 140737488355328) (E : Int) (hE : phEL L h = E) :
    Calls Tryz.prog 45 #[.slice A n c, .agg #[.int .i64 h.em, .int .i64 h.a, .int .i64 h.b, .int .i64 h.c, .int .i64 h.d, .bool h.l]] w fun e w' => ∃ A' n' c', e = .returned (.tuple #[.slice A' n' c', .int .i64 E]) ∧ (E = 0 → n' = (phB L h).length ∧ ∀ B q, B ≤ w.heap.size → q < w.heap.size → RdN w' B q A' (phB L h)) ∧ Since w w' := by
  subst hn
  refine (hd_puthead A L.length c (fnL L) h.em h.a h.b h.c h.d h.l w hT (rdb_rd hr) hi.1 hi.2.1 hi.2.2.1 hi.2.2.2.1 hi.2.2.2.2 hx).mono ?_
  rintro e w' ⟨A', c', rfl, hc, hN, hS⟩
  unfold phEL at hE
  rw [hE]
  refine ⟨A', _, c', rfl, fun h0 => ?_, hS⟩
  have e : phN L.length h.em h.a h.b h.c h.d = L.length := by unfold phN; rw [if_pos (by rw [hE]; exact h0)]
  rw [e] at hN ⊢
  exact ⟨(phB_len L h).symm, fun B q h1 h2 => nw_rdn hN h1 h2⟩
theorem fn_putmaxp (A : Option Addr) (c n : Nat) (L : List Int) (m : Mx9) (w : World) (hT : Tabs w) (hr : RdB w w.heap.size A L) (hn : n = L.length) (hi : In64 m.g ∧ In64 m.p ∧ In64 m.c ∧ In64 m.q ∧ In64 m.r ∧ In64 m.e ∧ In64 m.d) (hx : L.length ≤ 140737488355328) (E : Int) (hE : mpEL L m = E) :
    Calls Tryz.prog 46 #[.slice A n c, .agg #[.int .i64 m.g, .int .i64 m.p, .int .i64 m.c, .int .i64 m.q, .int .i64 m.r, .int .i64 m.e, .int .i64 m.d]] w fun e w' => ∃ A' n' c', e = .returned (.tuple #[.slice A' n' c', .int .i64 E]) ∧ (E = 0 → n' = (mpB L m).length ∧ ∀ B q, B ≤ w.heap.size → q < w.heap.size → RdN w' B q A' (mpB L m)) ∧ Since w w' := by
  subst hn
  refine (hd_putmaxp A L.length c (fnL L) m.g m.p m.c m.q m.r m.e m.d w hT (rdb_rd hr) hi.1 hi.2.1 hi.2.2.1 hi.2.2.2.1 hi.2.2.2.2.1 hi.2.2.2.2.2.1 hi.2.2.2.2.2.2 hx).mono ?_
  rintro e w' ⟨A', c', rfl, hc, hN, hS⟩
  unfold mpEL at hE
  rw [hE]
  refine ⟨A', _, c', rfl, fun h0 => ?_, hS⟩
  have e : mpN L.length (sevM m) = L.length := by unfold mpN; rw [if_pos (by rw [hE]; exact h0)]
  rw [e] at hN ⊢
  exact ⟨(mpB_len L m).symm, fun B q h1 h2 => nw_rdn hN h1 h2⟩
theorem fn_putcount (A : Option Addr) (c n : Nat) (L : List Int) (x : Int) (w : World) (hr : RdB w w.heap.size A L) (hn : n = L.length) (hi : In64 x) (hx : L.length ≤ 140737488355328) (E : Int) (hE : pcEL L x = E) :
    Calls Tryz.prog 47 #[.slice A n c, .int .i64 x] w fun e w' => ∃ A' n' c', e = .returned (.tuple #[.slice A' n' c', .int .i64 E]) ∧ (E = 0 → n' = (pcB L x).length ∧ ∀ B q, B ≤ w.heap.size → q < w.heap.size → RdN w' B q A' (pcB L x)) ∧ Since w w' := by
  subst hn
  refine (hd_putcount A L.length c (fnL L) x w (rdb_rd hr) hi hx).mono ?_
  rintro e w' ⟨A', c', rfl, hc, hN, hS⟩
  unfold pcEL at hE
  rw [hE]
  refine ⟨A', _, c', rfl, fun h0 => ?_, hS⟩
  have e : pcN L.length x = L.length := by unfold pcN; rw [if_pos (by rw [hE]; exact h0)]
  rw [e] at hN ⊢
  exact ⟨(pcB_len L x).symm, fun B q h1 h2 => nw_rdn hN h1 h2⟩
theorem fn_long (A : Option Addr) (c n : Nat) (GG : List (List Int)) (w : World) (h : RdI w w.heap.size A (plA GG)) (hn : n = GG.length + 1) (hg : GG.length ≤ 70000) :
    Calls Tryz.prog 43 #[.slice A n c] w fun e w' => e = .returned (.bool (wrE false (pl9 GG) (GG.length + 1) != 0)) ∧ Since w w' := by
  subst hn
  exact lo_long A (GG.length + 1) c (pl9 GG) w (by simp only [maxLen]; omega) (plA_rd h)
/-- Tables of which one is another one. -/
theorem with_has {TT : List Tb} {T : Tb} (h : has9 TT T.tag = true) : ∃ a U b, TT = a ++ U :: b ∧ withT TT T = a ++ T :: b ∧ eqT T.tag U = true ∧ dat9 TT T.tag = U.data := by
  rcases with_split TT T with ⟨a, U, b, e, e2, h1, h2⟩ | ⟨a, b, e, e2, h1⟩
  · refine ⟨a, U, b, e, e2, h1, ?_⟩
    unfold dat9
    rw [e, List.find?_append, List.find?_eq_none.2 (fun V hV => by rw [h2 V hV]; simp), List.find?_cons_of_pos h1]; rfl
  · exfalso
    unfold has9 at h
    obtain ⟨V, hV, hV2⟩ := List.any_eq_true.1 h
    rw [h1 V hV] at hV2; cases hV2
theorem with_len {TT : List Tb} {T : Tb} (h : has9 TT T.tag = true) : (withT TT T).length = TT.length := by
  obtain ⟨a, U, b, e, e2, _, _⟩ := with_has h
  rw [e2, e]; simp
theorem sumT_app (A B : List Tb) : sumT (A ++ B) = sumT A + sumT B := by unfold sumT; rw [List.map_append, List.sum_append_nat]
theorem sumT_cons (T : Tb) (B : List Tb) : sumT (T :: B) = T.data.length + sumT B := by unfold sumT; rw [List.map_cons, List.sum_cons]
theorem with_sum {TT : List Tb} {T : Tb} (h : has9 TT T.tag = true) (hl : T.data.length = (dat9 TT T.tag).length) : sumT (withT TT T) = sumT TT := by
  obtain ⟨a, U, b, e, e2, _, h4⟩ := with_has h
  rw [h4] at hl
  rw [e2, e, sumT_app, sumT_app, sumT_cons, sumT_cons, hl]
theorem dat_len {TT : List Tb} {s : ByteArray} {k : Nat} (h : ∀ T, T ∈ TT → T.data.length ≤ k) : (dat9 TT s).length ≤ k := dat9_cases (P := fun L => L.length ≤ k) (by simp) h s
theorem ne_HeadMaxp : eqS tgMaxp tgHead = false := by kernel_rfl
theorem ne_HeadHhea : eqS tgHhea tgHead = false := by kernel_rfl
theorem ne_MaxpHhea : eqS tgHhea tgMaxp = false := by kernel_rfl
end Go.Proofs.YteckkcpnfeoehaaGreatDoor

/-
  Layer 9: Sync of the program, walked.
-/
namespace Go.Proofs.YteckkcpnfeoehaaGreatDoor
set_option maxRecDepth 100000
open Go.RowKit Go.ChangeShapes Go.WideShapes Go.Deep
set_option linter.unusedVariables false
set_option linter.unusedSimpArgs false

theorem FnO.low {w : World} {base base' : Nat} {y : Fh} {F : Fn9} (h : FnO w base y F) (hb : base' ≤ base) : FnO w base' y F := ⟨h.t.low hb, OwnG.low h.m hb, h.g.low hb⟩
theorem FnO.nigh {w w' : World} {base q : Nat} {y : Fh} {F : Fn9} (h : FnO w base y F) (k : Nigh q w w') (hq : q < base) : FnO w' base y F := by
  have hk : ∀ b, base ≤ b → b < w.heap.size → w'.heap[b]? = w.heap[b]? := fun b hb hl => k.1.2 b hl (by omega)
  exact ⟨h.t.keepB hk, h.m.keep hk, h.g.keepB hk⟩
/-- A font that is worked on: its variable, the result's, its rows. -/
structure SyS (w wx : World) (y : Fh) (F : Fn9) : Prop where
  s : Since w wx
  b : FB wx w.heap.size y F
  r : BoxL wx (w.heap.size + 1) (fnC zX 0 zH zM 0 0 0)
  o : FnO wx (w.heap.size + 2) y F
section
variable {w wx wy : World} {y : Fh} {F : Fn9}
theorem SyS.since (h : SyS w wx y F) (k : Since wx wy) : SyS w wy y F := ⟨h.s.trans k, h.b.since k, h.r.since k, h.o.since k⟩
theorem SyS.lt2 (h : SyS w wx y F) : w.heap.size + 2 ≤ wx.heap.size := h.r.lt
theorem SyS.rd (h : SyS w wx y F) : FnR wx wx.heap.size y F := h.o.rd.1
theorem SyS.box {G : Fn9} (h : SyS w wx y F) (k : Nigh w.heap.size wx wy) (hb : FB wy w.heap.size y G) (e1 : G.TT = F.TT) (e2 : G.MM = F.MM) (e3 : G.GG = F.GG) : SyS w wy y G := by
  have ho := h.o.nigh k (by omega)
  refine ⟨k.2 w h.s (Nat.le_refl _), hb, h.r.nigh k (by omega), ⟨?_, ?_, ?_⟩⟩
  · rw [e1]; exact ho.t
  · rw [e2]; exact ho.m
  · rw [e3]; exact ho.g
theorem SyS.far {q : Nat} (h : SyS w wx y F) (k : Nigh q wx wy) (hq : w.heap.size + 2 ≤ q) (ho : FnO wy (w.heap.size + 2) y F) : SyS w wy y F := ⟨k.2 w h.s (by omega), BoxL.nigh h.b k (by omega), h.r.nigh k (by omega), ho⟩
theorem SyS.putT (h : SyS w wx y F) {A : Option Addr} {c : Nat} {TT : List Tb} (hO : OwnT wx (w.heap.size + 2) (.slice A TT.length c) TT) : SyS w (wx.setCell ⟨w.heap.size, 0, none⟩ (.slice A TT.length c)) ⟨A, c, y.Am, y.cm, y.Ag, y.cg⟩ ⟨TT, F.h, F.m, F.MM, F.ct, F.GG⟩ := by
  have k : Nigh w.heap.size wx (wx.setCell ⟨w.heap.size, 0, none⟩ (.slice A TT.length c)) := (Nigh.refl _ _).set _ _
  have hk : ∀ b, w.heap.size + 2 ≤ b → b < wx.heap.size → (wx.setCell ⟨w.heap.size, 0, none⟩ (.slice A TT.length c)).heap[b]? = wx.heap[b]? := fun b hb hl => k.1.2 b hl (by omega)
  exact ⟨k.2 w h.s (Nat.le_refl _), fn_put0 h.b A TT.length c, h.r.nigh k (by omega), ⟨hO.keepB hk, h.o.m.keep hk, h.o.g.keepB hk⟩⟩
end
theorem fb_store2 {w : World} {b : Nat} {x y : Fh} {F G : Fn9} {C : Array Value} {ops : Array Oper} {rest : List Oper} {op : Oper} {a : Act} {Q : Exit → Act → World → Prop} (hgd : op.guard = none) (p z : Operand) (ho : op.op = .store 30 p z) (hx : a.eval p = .pointer (some ⟨b, 0, none⟩)) (hB : FB w b x F) (hC : CV y G C) (hz : a.eval z = .agg C) (hk : ∀ w', FB w' b y G → Nigh b w w' → wpList Tryz.prog ops Q rest (a.put op.dst undef) w') : wpList Tryz.prog ops Q (op :: rest) a w :=
  wp_fn_store hgd p z ho hx hB y G.TT.length G.h G.m G.MM.length G.ct G.GG.length (hz.trans (congrArg Value.agg hC)) hk
theorem fresh_cv (x : Fh) (F : Fn9) (C : Array Value) (hC : CV x F C) (w : World) (hR : FnR w w.heap.size x F) (hG : NoGr F) : Calls Tryz.prog 42 #[.agg C] w fun e w' => ∃ y D, e = .returned (.agg D) ∧ CV y F D ∧ FnO w' w.heap.size y F ∧ Since w w' := by
  obtain ⟨c1, c2, c3, c4, c5⟩ := nogr_copy hG
  exact fn_fresh x F C hC w hR c1 c2 c3 c4 c5
theorem places_cv (x : Fh) (F : Fn9) (C : Array Value) (hC : CV x F C) (w : World) (hR : FnR w w.heap.size x F) (hG : NoGr F) : Calls Tryz.prog 12 #[.agg C] w fun e w' => ∃ A c, e = .returned (.slice A (F.GG.length + 1) c) ∧ RdI w' w'.heap.size A (plA F.GG) ∧ Since w w' := by
  refine (fn_places x F C hC w hR.glys (by have := hG.glys; omega) (by have := hG.sumG; omega)).mono ?_
  rintro e w' ⟨A, c, rfl, hO, hS⟩
  exact ⟨A, c, rfl, ownI_rd hO, hS⟩
/-- What was found: three rows, each to be put anew. -/
structure Dat3 (w wx : World) (q : Nat) (A0 : Option Addr) (n0 c0 : Nat) (A1 : Option Addr) (n1 c1 : Nat) (A2 : Option Addr) (n2 c2 : Nat) (L0 L1 L2 : List Int) : Prop where
  k0 : wx.cell? ⟨q, 0, none⟩ = some (.slice A0 n0 c0)
  k1 : wx.cell? ⟨q, 1, none⟩ = some (.slice A1 n1 c1)
  k2 : wx.cell? ⟨q, 2, none⟩ = some (.slice A2 n2 c2)
  fz : ∀ j, wx.frozen? ⟨q, j, none⟩ = false
  lt : q < wx.heap.size
  lo : w.heap.size + 2 ≤ q
  ty : ∃ cs z, wx.heap[q]? = some (Obj.cells cs 34 z)
  e0 : n0 = L0.length
  e1 : n1 = L1.length
  e2 : n2 = L2.length
  r0 : RdN wx (w.heap.size + 2) q A0 L0
  r1 : RdN wx (w.heap.size + 2) q A1 L1
  r2 : RdN wx (w.heap.size + 2) q A2 L2
section
variable {w wx wy : World} {q n0 c0 n1 c1 n2 c2 : Nat} {A0 A1 A2 : Option Addr} {L0 L1 L2 : List Int}
theorem Dat3.since (h : Dat3 w wx q A0 n0 c0 A1 n1 c1 A2 n2 c2 L0 L1 L2) (k : Since wx wy) : Dat3 w wy q A0 n0 c0 A1 n1 c1 A2 n2 c2 L0 L1 L2 :=
  ⟨(k.1 _ _ h.lt).trans h.k0, (k.1 _ _ h.lt).trans h.k1, (k.1 _ _ h.lt).trans h.k2, fun j => (k.2.1 _ _ h.lt).trans (h.fz j), k.2.2.1 _ h.lt, h.lo, by obtain ⟨cs, z, e⟩ := h.ty; exact ⟨cs, z, (k.below.block q h.lt).trans e⟩, h.e0, h.e1, h.e2, h.r0.since k, h.r1.since k, h.r2.since k⟩
theorem Dat3.nigh {r : Nat} (h : Dat3 w wx q A0 n0 c0 A1 n1 c1 A2 n2 c2 L0 L1 L2) (k : Nigh r wx wy) (hr : r < w.heap.size + 2) : Dat3 w wy q A0 n0 c0 A1 n1 c1 A2 n2 c2 L0 L1 L2 := by
  have e := k.1.2 q h.lt (by have := h.lo; omega)
  refine ⟨?_, ?_, ?_, fun j => ?_, Nat.lt_of_lt_of_le h.lt k.1.1, h.lo, by rw [e]; exact h.ty, h.e0, h.e1, h.e2, h.r0.nigh k (.inr hr), h.r1.nigh k (.inr hr), h.r2.nigh k (.inr hr)⟩
  · rw [← h.k0]; simp only [World.cell?, e]
  · rw [← h.k1]; simp only [World.cell?, e]
  · rw [← h.k2]; simp only [World.cell?, e]
  · rw [← h.fz j]; simp only [World.frozen?, e]
theorem typed_set2 {w : World} {b o : Nat} {v : Value} {t : TypeId} (h : ∃ cs z, w.heap[b]? = some (Obj.cells cs t z)) : ∃ cs z, (w.setCell ⟨b, o, none⟩ v).heap[b]? = some (Obj.cells cs t z) := by
  obtain ⟨cs, z, h⟩ := h
  obtain ⟨cs', h'⟩ := typed_set (o := o) (v := v) ⟨cs, h⟩
  exact ⟨cs', z, h'⟩
theorem Dat3.put0 (h : Dat3 w wx q A0 n0 c0 A1 n1 c1 A2 n2 c2 L0 L1 L2) {A : Option Addr} {n c : Nat} {L : List Int} (hn : n = L.length) (hr : RdN wx (w.heap.size + 2) q A L) : Dat3 w (wx.setCell ⟨q, 0, none⟩ (.slice A n c)) q A n c A1 n1 c1 A2 n2 c2 L L1 L2 := by
  have k : Nigh q wx (wx.setCell ⟨q, 0, none⟩ (.slice A n c)) := (Nigh.refl q wx).set _ _
  refine ⟨?_, ?_, ?_, fun j => (World.frozen?_setCell _ _ _ _).trans (h.fz j), by simpa [World.setCell] using h.lt, h.lo, typed_set2 h.ty, hn, h.e1, h.e2, hr.nigh k (.inl rfl), h.r1.nigh k (.inl rfl), h.r2.nigh k (.inl rfl)⟩
  · rw [cell_set, if_pos ⟨rfl, rfl⟩, h.k0]; rfl
  · rw [cell_set, if_neg (by omega)]; exact h.k1
  · rw [cell_set, if_neg (by omega)]; exact h.k2
theorem Dat3.put1 (h : Dat3 w wx q A0 n0 c0 A1 n1 c1 A2 n2 c2 L0 L1 L2) {A : Option Addr} {n c : Nat} {L : List Int} (hn : n = L.length) (hr : RdN wx (w.heap.size + 2) q A L) : Dat3 w (wx.setCell ⟨q, 1, none⟩ (.slice A n c)) q A0 n0 c0 A n c A2 n2 c2 L0 L L2 := by
  have k : Nigh q wx (wx.setCell ⟨q, 1, none⟩ (.slice A n c)) := (Nigh.refl q wx).set _ _
  refine ⟨?_, ?_, ?_, fun j => (World.frozen?_setCell _ _ _ _).trans (h.fz j), by simpa [World.setCell] using h.lt, h.lo, typed_set2 h.ty, h.e0, hn, h.e2, h.r0.nigh k (.inl rfl), hr.nigh k (.inl rfl), h.r2.nigh k (.inl rfl)⟩
  · rw [cell_set, if_neg (by omega)]; exact h.k0
  · rw [cell_set, if_pos ⟨rfl, rfl⟩, h.k1]; rfl
  · rw [cell_set, if_neg (by omega)]; exact h.k2
theorem Dat3.put2 (h : Dat3 w wx q A0 n0 c0 A1 n1 c1 A2 n2 c2 L0 L1 L2) {A : Option Addr} {n c : Nat} {L : List Int} (hn : n = L.length) (hr : RdN wx (w.heap.size + 2) q A L) : Dat3 w (wx.setCell ⟨q, 2, none⟩ (.slice A n c)) q A0 n0 c0 A1 n1 c1 A n c L0 L1 L := by
  have k : Nigh q wx (wx.setCell ⟨q, 2, none⟩ (.slice A n c)) := (Nigh.refl q wx).set _ _
  refine ⟨?_, ?_, ?_, fun j => (World.frozen?_setCell _ _ _ _).trans (h.fz j), by simpa [World.setCell] using h.lt, h.lo, typed_set2 h.ty, h.e0, h.e1, hn, h.r0.nigh k (.inl rfl), h.r1.nigh k (.inl rfl), hr.nigh k (.inl rfl)⟩
  · rw [cell_set, if_neg (by omega)]; exact h.k0
  · rw [cell_set, if_neg (by omega)]; exact h.k1
  · rw [cell_set, if_pos ⟨rfl, rfl⟩, h.k2]; rfl
end
/-- What was looked up. -/
theorem dat3_of {w w0 wx : World} {c : Nat} {A : Option Addr} {L0 L1 L2 : List Int} (h : OwnBL wx w0.heap.size (.slice A 3 c) [L0, L1, L2]) (hb : w.heap.size + 2 ≤ w0.heap.size) : ∃ q A0 n0 c0 A1 n1 c1 A2 n2 c2, A = some ⟨q, 0, none⟩ ∧ Dat3 w wx q A0 n0 c0 A1 n1 c1 A2 n2 c2 L0 L1 L2 ∧ w0.heap.size ≤ q := by
  have h0 := h
  obtain ⟨hs, hl, ho, hK⟩ := h
  have hl : hs.length = 3 := hl
  have ho1 := ho
  rcases ho.2 with ⟨_, h1⟩ | ⟨q, cap, cur, e, _⟩
  · rw [hl] at h1; cases h1
  · injection e with e1 _ _
    rw [e1] at h0 ho
    obtain ⟨⟨cs, z, hh⟩, hq⟩ := heap_of ho
    obtain ⟨x0, x1, x2, rfl⟩ : ∃ x0 x1 x2, hs = [x0, x1, x2] := by
      rcases hs with _ | ⟨a, _ | ⟨b, _ | ⟨c, _ | ⟨d, r⟩⟩⟩⟩
      · cases hl
      · cases hl
      · cases hl
      · exact ⟨a, b, c, rfl⟩
      · simp at hl
    have g0 := hK 0 x0 L0 rfl rfl
    have g1 := hK 1 x1 L1 rfl rfl
    have g2 := hK 2 x2 L2 rfl rfl
    obtain ⟨A', c', e', _, hr⟩ := OwnG.rd (by omega) hdL_len ho
    injection e' with e'
    obtain ⟨b, o, e2, _, hc⟩ := hr (by simp)
    rw [← e'] at e2
    injection e2 with e2
    injection e2 with e2 e3
    subst e2 e3
    have c0 := hc 0 x0 rfl 0 (by omega)
    have c1 := hc 1 x1 rfl 0 (by omega)
    have c2 := hc 2 x2 rfl 0 (by omega)
    have len : ∀ {x : Hd} {L : List Int}, OwnB wx w0.heap.size (.slice x.A x.n x.c) L → x.n = L.length := fun {x L} hx => by
      obtain ⟨_, _, e, _, _⟩ := OwnG.rd (by omega) byL_len hx
      injection e
    have low : ∀ {x : Hd} {L : List Int}, OwnB wx w0.heap.size (.slice x.A x.n x.c) L → RdN wx (w.heap.size + 2) q x.A L := fun {x L} hx => ownb_rdn (OwnG.low hx hb) hh
    exact ⟨q, x0.A, x0.n, x0.c, x1.A, x1.n, x1.c, x2.A, x2.n, x2.c, e1, ⟨c0, c1, c2, fun j => World.ownsRow.frozenAt ho j, heap_lt hh, by omega, ⟨cs, z, hh⟩, len g0, len g1, len g2, low g0, low g1, low g2⟩, hq⟩
def SyncP9 (F : Fn9) (w : World) (e : Ending) (w' : World) : Prop := ∃ y D, e = .returned (.tuple #[.agg D, .int .i64 (sync9 F).1]) ∧ CV y (sync9 F).2 D ∧ FnO w' w.heap.size y (sync9 F).2 ∧ Since w w'
theorem sync_no {F : Fn9} {w w' : World} {x : Int} (hx : syE F = x) (h0 : x ≠ 0) (hS : Since w w') : SyncP9 F w (.returned (.tuple #[.agg (fnC zX 0 zH zM 0 0 0).toArray, .int .i64 x])) w' := by
  unfold SyncP9 sync9
  rw [if_pos (by rw [hx]; exact h0), hx]
  exact ⟨zX, _, rfl, rfl, ⟨OwnT.nil _ _, OwnG.nil _ _ _ _ _, OwnBL.nil _ _⟩, hS⟩
theorem sync_yes {F : Fn9} {y : Fh} {w w' : World} {nt nm ng : Nat} {H : Hd9} {M : Mx9} {K : Int} (hx : syE F = 0) (hS : Since w w') (ho : FnO w' (w.heap.size + 2) y (syF F)) (e1 : nt = (syT F).length) (e2 : H = syH F) (e3 : M = syM F) (e4 : nm = F.MM.length) (e5 : K = F.ct) (e6 : ng = F.GG.length) : SyncP9 F w (.returned (.tuple #[.agg (fnC y nt H M nm K ng).toArray, .int .i64 0])) w' := by
  unfold SyncP9 sync9
  rw [if_neg (by rw [hx]; simp)]
  subst e1 e2 e3 e4 e5 e6
  exact ⟨y, _, rfl, rfl, ho.low (by omega), hS⟩
end Go.Proofs.YteckkcpnfeoehaaGreatDoor
