/-
  Layer 9: FontBack walked.
-/
import Derived.Test.YteckkcpnfeoehaaDoorMpQ
import Derived.Test.YteckkcpnfeoehaaDoorMpS
import Derived.Test.YteckkcpnfeoehaaDoorMpR
namespace Go.Proofs.YteckkcpnfeoehaaDoor
set_option maxRecDepth 100000
open Go.RowKit Go.ChangeShapes Go.WideShapes Go.Deep
set_option linter.unusedVariables false
set_option linter.unusedSimpArgs false

theorem fb_none (x : Fh) (F : Fn9) (C : Array Value) (hC : CV x F C) (w : World) (hT : Tabs w) (hR : FnR w w.heap.size x F) (hG : NoGr F) (hW : FnW F) (hgc : F.GG.length ≤ x.cg) (hr : ¬ right9 F) :
    Calls Tryd.prog 9 #[.agg C] w fun e w' => ∃ A c, e = .returned (.tuple #[.slice A 0 c, .int .i64 4]) ∧ Since w w' := by
  refine (fn_write x F _ hC w hT hR hG hW hgc).mono ?_
  rintro e w' ⟨v, rfl, hO, hS⟩
  unfold file9 at hO
  rw [if_neg (by rw [right9_no hr]; simp)] at hO
  obtain ⟨A, c, rfl, _, _⟩ := OwnG.rd (by omega) byL_len hO
  exact ⟨A, c, by rw [if_neg (by rw [right9_no hr]; simp)]; rfl, hS⟩
theorem in_great {w : World} {x : Fh} {F : Fn9} {C : Array Value} (hI : InF w x F) (hC : C = fnV x F) (w2 : World) (h2 : Since w w2) : Calls Tryd.prog 8 #[.agg C] w2 (GreatP9 F w2) :=
  rf_great9 x F C hC w2 (hI.rd.on h2) hI.tl hI.td hI.ml hI.gl hI.gd
theorem nogr_copy {F : Fn9} (h : NoGr F) : F.TT.length ≤ 100000 ∧ (∀ T, T ∈ F.TT → T.data.length ≤ 1000000) ∧ F.MM.length ≤ 100000 ∧ F.GG.length ≤ 100000 ∧ ∀ L, L ∈ F.GG → L.length ≤ 1000000 :=
  ⟨by have := h.tabs; omega, fun T hT => by have := (h.dats T hT).1; omega, by have := h.mets; omega, by have := h.glys; omega, fun L hL => by have := h.gly L hL; omega⟩
/-- Tables of which the first ones' adjustments are struck. -/
def bl9 (TT : List Tb) (j : Nat) : List Tb := (TT.take j).map blankT ++ TT.drop j
theorem bl9_zero (TT : List Tb) : bl9 TT 0 = TT := by unfold bl9; simp
theorem bl9_all (TT : List Tb) : bl9 TT TT.length = TT.map blankT := by unfold bl9; simp
theorem bl9_at {TT : List Tb} {j : Nat} {T : Tb} (hj : TT[j]? = some T) : (bl9 TT j)[j]? = some T ∧ (bl9 TT j).set j (blankT T) = bl9 TT (j + 1) := by
  have hl : j < TT.length := by
    rcases Nat.lt_or_ge j TT.length with h | h
    · exact h
    · rw [List.getElem?_eq_none h] at hj; cases hj
  have hk : ((TT.take j).map blankT).length = j := by simp; omega
  have hT : TT[j] = T := by rw [List.getElem?_eq_getElem hl] at hj; exact Option.some.inj hj
  unfold bl9
  constructor
  · rw [List.getElem?_append_right (by omega), hk, Nat.sub_self, List.getElem?_drop]; simpa using hj
  · rw [List.set_append, if_neg (by omega), hk, Nat.sub_self, List.drop_eq_getElem_cons hl, List.set_cons_zero, List.take_succ_eq_append_getElem hl, List.map_append, List.append_assoc, hT]; rfl
/-- One table's data of a font whose rows are a call's own is changed. -/
theorem FnO.putD {w : World} {base : Nat} {y : Fh} {F : Fn9} (h : FnO w base y F) {g : Nat} (hA : y.At = some ⟨g, 0, none⟩) {j : Nat} {T : Tb} (hj : F.TT[j]? = some T) {A' : Option Addr} {n' c' : Nat} {L : List Int} (hrow : OwnB w base (.slice A' n' c') L) :
    FnO (w.setCell ⟨g, j * 2 + 1, none⟩ (.slice A' n' c')) base y ⟨F.TT.set j ⟨T.tag, L⟩, F.h, F.m, F.MM, F.ct, F.GG⟩ ∧ ((∃ A m k, w.cell? ⟨g, j * 2 + 1, none⟩ = some (.slice A m k)) ∧ w.frozen? ⟨g, j * 2 + 1, none⟩ = false ∧ g < w.heap.size ∧ base ≤ g) := by
  obtain ⟨ht, hm, hg⟩ := h
  rw [hA] at ht
  have hjl : j < F.TT.length := by
    rcases Nat.lt_or_ge j F.TT.length with h | h
    · exact h
    · rw [List.getElem?_eq_none h] at hj; cases hj
  obtain ⟨hs, hl, ho, _⟩ := id ht
  obtain ⟨⟨cs, z, hh⟩, hb⟩ := heap_of ho
  have hk : ∀ b, b ≠ g → b < w.heap.size → (w.setCell ⟨g, j * 2 + 1, none⟩ (.slice A' n' c')).heap[b]? = w.heap[b]? := fun b hb _ => heap_setCell_other _ ⟨g, j * 2 + 1, none⟩ b _ hb
  obtain ⟨_, q2, _, q4, q5⟩ := tb_cells ht hjl
  refine ⟨⟨?_, ?_, ?_⟩, q2, q4, q5, hb⟩
  · have := ht.putD hj hrow
    show OwnT _ base (.slice y.At (F.TT.set j ⟨T.tag, L⟩).length y.ct) (F.TT.set j ⟨T.tag, L⟩)
    rw [List.length_set, hA]
    exact this
  · exact hm.keep1 fun b hb hlt => hk b (fun e => own_ne hm hh (by decide) (by rw [hb, e])) hlt
  · obtain ⟨gs, gl, go, gK⟩ := hg
    exact ⟨gs, gl, go.keep1 fun b hb hlt => hk b (fun e => own_ne go hh (by decide) (by rw [hb, e])) hlt, fun i x M a b => OwnG.keep1 (gK i x M a b) fun c hc hlt => hk c (fun e => own_ne (gK i x M a b) hh (by decide) (by rw [hc, e])) hlt⟩
theorem FnO.at {w : World} {base : Nat} {y : Fh} {F : Fn9} (h : FnO w base y F) : ∃ g, base ≤ g ∧ (0 < F.TT.length → y.At = some ⟨g, 0, none⟩) := by
  rcases Nat.eq_zero_or_pos F.TT.length with h0 | h0
  · exact ⟨base, Nat.le_refl _, fun h => by omega⟩
  · obtain ⟨q, c, e⟩ := OwnT.some h.t h0
    injection e with e1 _ _
    have ht := h.t
    rw [e1] at ht
    obtain ⟨hs, hl, ho, _⟩ := ht
    exact ⟨q, (heap_of ho).2, fun _ => e1⟩
theorem nigh_since {q : Nat} {a b c : World} (h : Nigh q a b) (k : Since b c) (hq : q < b.heap.size ∨ True) : Nigh q a c := ⟨⟨Nat.le_trans h.1.1 k.below.size, fun x hx hn => (k.below.block x (Nat.lt_of_lt_of_le hx h.1.1)).trans (h.1.2 x hx hn)⟩, fun w0 h0 hq => (h.2 w0 h0 hq).trans k⟩
theorem FnR.nigh {w w' : World} {B q : Nat} {x : Fh} {F : Fn9} (h : FnR w B x F) (k : Nigh q w w') (hB : B ≤ w.heap.size) (hq : B ≤ q) : FnR w' w'.heap.size x F := by
  have hk : ∀ b o, b < B → w'.cell? ⟨b, o, none⟩ = w.cell? ⟨b, o, none⟩ := fun b o hb => by
    have := k.1.2 b (by omega) (by omega)
    simp only [World.cell?, this]
  have hs : B ≤ w'.heap.size := Nat.le_trans hB k.1.1
  exact ⟨(h.tabs.keep hk).more hs, (h.mets.keep hk).more hs, (h.glys.keep hk).more hs⟩
theorem same9_cv (x y : Fh) (F : Fn9) (C D : Array Value) (hC : CV x F C) (hD : CV y F D) (w : World) (hR : FnR w w.heap.size x F) (hQ : FnR w w.heap.size y F) (ht : F.TT.length ≤ maxLen) (hm : F.MM.length ≤ maxLen) (hg : F.GG.length ≤ maxLen) :
    Calls Tryd.prog 14 #[.agg C, .agg D] w fun e w' => e = .returned (.bool true) ∧ Since w w' := rf_same9 x y F C D hC hD w hR hQ ht hm hg
theorem lv_tabs {w : World} {b o : Nat} {A : Option Addr} {n c : Nat} (h : w.cell? ⟨b, o, none⟩ = some (.slice A n c)) : (loadVar 22 ⟨b, o, none⟩).run Tryd.prog w = .ok (.slice A n c) w := by
  go_simp
theorem lv_tab {w : World} {b o : Nat} {s : ByteArray} {A : Option Addr} {n c : Nat} (h : w.cell? ⟨b, o, none⟩ = some (.string s)) (k : w.cell? ⟨b, o + 1, none⟩ = some (.slice A n c)) : (loadVar 41 ⟨b, o, none⟩).run Tryd.prog w = .ok (.agg #[.string s, .slice A n c]) w := by
  go_simp
attribute [-go_sem] loadVar
set_option maxRecDepth 1000000 in
set_option maxHeartbeats 64000000 in
theorem walk_fontback (x : Fh) (F : Fn9) (C : Array Value) (hC : CV x F C) (w : World) (hT : Tabs w) (hI : InF w x F) :
    Calls Tryd.prog 3 #[.agg C] w fun e w' => e = .returned (.bool true) ∧ Since w w' := by
  have HA := Lib.hid (alive09 w hT)
  have HT := Lib.hid (fun (w2 : World) (h2 : Since w w2) => hT.since h2)
  have HGR := Lib.hid (in_great hI hC)
  have HRD := Lib.hid (fun (w2 : World) (h2 : Since w w2) => hI.rd.on h2)
  have HNU := Lib.hid hI.num
  have HGC := Lib.hid hI.gc
  have HBX := Lib.hid (fun (t : TypeId) => (fn_box (x := x) (nt := F.TT.length) (h := F.h) (m := F.m) (nm := F.MM.length) (ct := F.ct) (ng := F.GG.length) w w.heap.size rfl t))
  have HC := Lib.hid hC
  unfold GreatP9 at HGR
  clear hT hI
  by_cases hrt : right9 F
  · have HY := Lib.hid hrt
    have HRT := Lib.hid (right9_yes hrt)
    clear hrt
    go_enter Tryd.func3, Tryd.ntmps3
    go_upto_region 1 with fail
    refine wp_named fun w0 hw0 => ?_
    have hS0 : Since w w0 := by subst hw0; (repeat (first | with_reducible (exact Since.refl _) | with_reducible assumption | with_reducible (refine Since.drew ?_) | with_reducible (refine Since.drewN ?_ _) | with_reducible (refine Since.alloc ?_ _) | (with_reducible (refine Since.setCell ?_ ?_ _); rotate_left; focus (first | (simp; done) | (simp; omega) | omega)) | (with_reducible (refine Since.trans ?_ (by with_reducible assumption)))))
    have hB0 : FB w0 w.heap.size x F := by subst hw0; rw [HC.out]; exact HBX.out _
    clear hw0 HBX HC
    go_upto_region 5 with (first | (go_at_call 7; (with_reducible refine (alive09 _ (HT.out _ hS0)).mono ?_); rintro e w1 ⟨rfl, hS1⟩; have hS01 := hS0.trans hS1; have hB1 := hB0.since hS1) | (refine fb_load rfl _ rfl (by rfl) (by with_reducible exact hB1) hC ?_) | (go_at_call 8; (with_reducible refine (HGR.out _ hS01).mono ?_); rintro e w2 ⟨g, rfl, hng, hS2⟩; have hS02 := hS01.trans hS2; have hB2 := hB1.since hS2; have HNG := Lib.hid hng; clear hng hB0 hB1 hS1 hS2 hS0; cases g))
    · have HNR := Lib.hid (HNG.out (by first | exact trivial | rfl))
      clear HNG
      have HBF := Lib.hid (bytes_file9 (all9_bytes HNU.out))
      have HLF := Lib.hid (show (file4 (all9 F)).length ≤ 140737488355328 by rw [file4_len HY.out.2.2]; have := HY.out.2.2.2.2.1; omega)
      have HEF := Lib.hid (rd9_file HY.out)
      obtain ⟨cp1, cp2, cp3, cp4, cp5⟩ := nogr_copy HNR.out
      have HCP : Hid (∀ w2 : World, Since w w2 → Calls Tryd.prog 12 #[.agg C] w2 fun e w' => ∃ y D, e = .returned (.agg D) ∧ CV y F D ∧ FnO w' w2.heap.size y F ∧ Since w2 w') := Lib.hid (fun (w2 : World) (h2 : Since w w2) => rf_copy9 x F C hC w2 (HRD.out _ h2) cp1 cp2 cp3 cp4 cp5)
      clear cp1 cp2 cp3 cp4 cp5
      go_upto_region 10 with (first | (refine fb_load rfl _ rfl (by rfl) (by first | with_reducible exact hB5 | with_reducible exact hB2) hC ?_) | (go_at_call 9; (with_reducible refine (ag_yes x F C hC _ (HT.out _ hS02) (HRD.out _ hS02) HNR.out HNU.out HGC.out HY.out).mono ?_); rintro e w3 ⟨A3, m3, c3, rfl, hm3, hr3, hmc3, hS3⟩; have hS03 := hS02.trans hS3; have hB3 := hB2.since hS3) | (go_at_call 11; (with_reducible refine (ag_read A3 m3 c3 (file4 (all9 F)) 0 (blank9 F) _ (HT.out _ hS03) hr3 hm3.out HBF.out (by rw [hm3.out]; exact HLF.out) hmc3 HEF.out).mono ?_); rintro e w4 ⟨y, D, rfl, hD, hQ, hgq, hS4⟩; have hS04 := hS03.trans hS4; have hB4 := hB3.since hS4) | (refine fb_store rfl _ _ rfl (by rfl) (by with_reducible exact new_fn w4 w4.heap.size rfl _) hD (by rfl) ?_; intro w5 hB45 hN5; have hS45 := hN5.2 w4 ((Since.refl w4).alloc _) (Nat.le_refl _); have hS05 := hS04.trans hS45; have hQ5 := hQ.on hS45; have hB5 := hB4.since hS45) | (go_at_call 12; (with_reducible refine (HCP.out _ hS05).mono ?_); rintro e w6 ⟨z, E, rfl, hE, hO6, hS6⟩; have hS06 := hS05.trans hS6) | (refine fb_store rfl _ _ rfl (by rfl) (by with_reducible exact new_fn w6 w6.heap.size rfl _) hE (by rfl) ?_; intro w7 hB67 hN7; have hS67 := hN7.2 w6 ((Since.refl w6).alloc _) (Nat.le_refl _)))
      have hS07 := hS06.trans hS67
      have hS57 := hS6.trans hS67
      have hO7 := hO6.since hS67
      obtain ⟨gT, hgb, hgA, hg6⟩ : ∃ gT, w5.heap.size ≤ gT ∧ (0 < F.TT.length → z.At = some ⟨gT, 0, none⟩) ∧ gT ≠ w6.heap.size := by
        rcases Nat.eq_zero_or_pos F.TT.length with h0 | h0
        · exact ⟨w7.heap.size, hS57.below.size, fun h => by omega, by have := hB67.lt; omega⟩
        · obtain ⟨q, c, e⟩ := OwnT.some hO6.t h0
          injection e with e1 _ _
          have ht := hO6.t
          rw [e1] at ht
          obtain ⟨l1, l2⟩ := ht.lt
          exact ⟨q, l1, fun _ => e1, by omega⟩
      have HB5 := Lib.hid (hB45.since hS57)
      have HB1 := Lib.hid (hB5.since hS57)
      have HB7 := Lib.hid hB67
      have HQ7 := Lib.hid (hQ5.on hS57)
      have HR3 := Lib.hid (show RdB w7 w4.heap.size A3 (file4 (all9 F)) from ((hr3.keep (fun b o hb => hS4.1 b o hb)).more hS4.below.size).keep (fun b o hb => (hS45.trans hS57).1 b o hb))
      have HQF := Lib.hid (show FnR w7 w5.heap.size y (blank9 F) from by
        obtain ⟨a1, a2, a3⟩ := hQ5
        exact ⟨a1.keep (fun b o hb => hS57.1 b o hb), a2.keep (fun b o hb => hS57.1 b o hb), a3.keep (fun b o hb => hS57.1 b o hb)⟩)
      have HO7 := Lib.hid (show FnO w7 w5.heap.size z ⟨bl9 F.TT 0, F.h, F.m, F.MM, F.ct, F.GG⟩ from by rw [bl9_zero]; exact hO7)
      have k70' := BoxL.cell hB67 0 (v := .slice z.At F.TT.length z.ct) rfl
      obtain ⟨N, hN⟩ : ∃ N, N = F.TT.length := ⟨_, rfl⟩
      have hN5 : N ≤ 101 := by rw [hN]; exact HNR.out.tabs
      rw [← hN] at k70' hgA
      have k70 := lv_tabs k70'
      clear k70'
      have HN := Lib.hid hN
      have HGA := Lib.hid hgA
      have HM3 := Lib.hid hm3
      have hl7 := hB67.lt
      have hl5 : w5.heap.size ≤ w6.heap.size := hS6.below.size
      have hl4 : w4.heap.size ≤ w5.heap.size := hS45.below.size
      have HL0 := Lib.hid (show w.heap.size < w4.heap.size from hB4.lt)
      have HL4 := Lib.hid (show w4.heap.size < w5.heap.size from hB45.lt)
      clear hN hO6 hO7 hB45 hB67 hQ5 hQ hB5 hB4 hB3 hB2 hr3 hm3 hS3 hS4 hS45 hS6 hS67 hN7 hS05 hS06 hS04 hS03 hS02 hgA HLF
      go_wp2_with fail
      go_loopw [41] (fun v wr => ∃ j : Nat, j ≤ N ∧ v = .int .i64 (j : Int) ∧ FnO wr w5.heap.size z ⟨bl9 F.TT j, F.h, F.m, F.MM, F.ct, F.GG⟩ ∧ Nigh gT w7 wr ∧ Since w wr) (fun v _ => N - (intOf v).toNat)
      case atStart => exact ⟨0, by omega, rfl, HO7.out, Nigh.refl _ _, hS07⟩
      case round =>
        obtain ⟨j, hj, rfl, hOr, hNr, hSr⟩ := hrel
        clear k70
        have k7 := (HB7.out.nigh hNr (Ne.symm hg6)).cell 0 (v := .slice z.At N z.ct) (by rw [HN.out]; rfl)
        have hl7r := (HB7.out.nigh hNr (Ne.symm hg6)).lt
        by_cases hjn : j < N
        · have hjn' : (j : Int) < N := by omega
          have hjL : j < F.TT.length := by rw [← HN.out]; exact hjn
          have hA := HGA.out (by omega)
          obtain ⟨b1, b2⟩ := bl9_at (List.getElem?_eq_getElem hjL)
          have hml := (HNR.out.dats _ (List.getElem_mem hjL)).1
          generalize F.TT[j] = T at *
          obtain ⟨bb, oo, A', c', e1, hbb, r0, r1, hr⟩ := (by obtain ⟨A1, d1, q1, _, r1⟩ := hOr.t.rd; injection q1 with q1 _ _; rw [← q1] at r1; exact r1 : RdTL wr wr.heap.size z.At (bl9 F.TT j)).row b1
          rw [hA] at e1 k7
          injection e1 with e1
          injection e1 with e1 e2
          subst e1 e2
          rw [Nat.zero_add] at r0 r1
          obtain ⟨s, L⟩ := T
          obtain ⟨n, hn0⟩ : ∃ n, n = L.length := ⟨_, rfl⟩
          have hml : n ≤ 40000 := by rw [hn0]; exact hml
          have r1 : wr.cell? ⟨gT, j * 2 + 1, none⟩ = some (.slice A' n c') := by rw [hn0]; exact r1
          have hr : RdB wr wr.heap.size A' L := hr
          have HBL := Lib.hid (fun (w2 : World) (h2 : Since wr w2) => rf_blank ⟨s, L⟩ A' n c' w2 (RdG.on hr h2) hn0 (by omega))
          have HOR := Lib.hid hOr
          have HNI := Lib.hid hNr
          have HB1 := Lib.hid b1
          have HB2 := Lib.hid b2
          have kt := lv_tab r0 r1
          have kh := lv_tabs k7
          clear hOr hNr b1 b2 hr hjL hn0
          have hgl := hbb
          go_upto_region 13 with fail
          refine wp_named fun w8 hw8 => ?_
          obtain ⟨t9, ht9⟩ : ∃ t9, t9 = wr.heap.size := ⟨_, rfl⟩
          have hS8 : Since wr w8 := by subst hw8; (repeat (first | with_reducible (exact Since.refl _) | with_reducible assumption | with_reducible (refine Since.drew ?_) | with_reducible (refine Since.drewN ?_ _) | with_reducible (refine Since.alloc ?_ _) | (with_reducible (refine Since.setCell ?_ ?_ _); rotate_left; focus (first | (simp; done) | (simp; omega) | omega)) | (with_reducible (refine Since.trans ?_ (by with_reducible assumption)))))
          have hU8 : Two w8 t9 (.string s) (.slice A' n c') := by subst hw8; exact two_new wr t9 ht9 _ _ _
          have hS8w := hSr.trans hS8
          rw [← ht9] at hgl hl7r hbb ⊢
          clear hw8 kt kh r0 r1 ht9
          obtain ⟨u1, u2, _, _, u5⟩ := id hU8
          have v1 := (hS8.1 _ 0 (show w6.heap.size < wr.heap.size from by have := (HB7.out.nigh HNI.out (Ne.symm hg6)).lt; exact this)).trans k7
          have gne : ¬ gT = w6.heap.size := hg6
          have hz58 : w5.heap.size ≤ w8.heap.size := by omega
          have gn9 : ¬ gT = t9 := by omega
          have i7 : (j : Int) < (N : Int) := hjn'
          have i8 : (0 : Int) ≤ (j : Int) := by omega
          go_region_held3 (fun w' => (loadVar 22 ⟨w6.heap.size, 0, none⟩).run Tryd.prog w' = .ok (.slice (some ⟨gT, 0, none⟩) N z.ct) w' ∧ (loadVar 41 ⟨t9, 0, none⟩).run Tryd.prog w' = .ok (.agg #[.string s, .slice A' n c']) w') ((first | exact ⟨lv_tabs v1, lv_tab u1 u2⟩ | exact ⟨lv_tabs v9, lv_tab y1 y2⟩ | exact ⟨lv_tabs (by rw [cell_set, if_neg (by omega)]; exact v9), lv_tab (by rw [cell_set, if_neg (by omega)]; exact y1) (by rw [cell_set, if_neg (by omega)]; exact y2)⟩)) ((go_at_call 13; (with_reducible refine (HBL.out _ (by (repeat (first | with_reducible (exact Since.refl _) | with_reducible assumption | with_reducible (refine Since.drew ?_) | with_reducible (refine Since.drewN ?_ _) | with_reducible (refine Since.alloc ?_ _) | (with_reducible (refine Since.setCell ?_ ?_ _); rotate_left; focus (first | (simp; done) | (simp; omega) | omega)) | (with_reducible (refine Since.trans ?_ (by with_reducible assumption))))))).mono ?_); rintro e w9 ⟨v9', rfl, hO9, hS9⟩; have hX9 : Since w8 w9 := (by (repeat (first | with_reducible (exact Since.refl _) | with_reducible assumption | with_reducible (refine Since.drew ?_) | with_reducible (refine Since.drewN ?_ _) | with_reducible (refine Since.alloc ?_ _) | (with_reducible (refine Since.setCell ?_ ?_ _); rotate_left; focus (first | (simp; done) | (simp; omega) | omega)) | (with_reducible (refine Since.trans ?_ (by with_reducible assumption)))))); have hR9 := hS8.trans hX9; obtain ⟨A9, c9, rfl, _, _⟩ := OwnG.rd (by omega) byL_len hO9; have hPD := (HOR.out.since hR9).putD (HGA.out (by omega)) HB1.out (OwnG.low (base' := w5.heap.size) hO9 (by first | exact hz58 | (simp; exact hz58))); have HPD := Lib.hid hPD.1; obtain ⟨⟨A0, m0, k0, p1⟩, p2, p3, p4⟩ := hPD.2; clear hPD; obtain ⟨y1, y2, _, _, y5⟩ := id (hU8.since hX9); have v9 := (hX9.1 _ 0 (by omega)).trans v1))
          all_goals go_wp2_with fail
          all_goals go_roundw
          case measure => simp [intOf]; omega
          case rel =>
            (repeat apply Exists.intro)
            rw [hA]
            refine ⟨?_, rfl⟩
            refine ⟨j + 1, by omega, ?_, ?_, ?_, ?_⟩
            · first | rfl | go_num | simp
            · rw [← HB2.out]; exact HPD.out
            · exact (nigh_since HNI.out hR9 (.inr trivial)).set _ _
            · exact (hSr.trans hR9).setCell (p := ⟨gT, _, none⟩) (by have := HL0.out; have := HL4.out; show w.heap.size ≤ gT; omega) _
        · obtain rfl : N = j := by omega
          have hjn' : ¬ (N : Int) < (N : Int) := by omega
          have eN : bl9 F.TT N = F.TT.map blankT := by rw [HN.out]; exact bl9_all _
          rw [eN] at hOr
          have hZ : FnO wr w5.heap.size z (blank9 F) := hOr
          have hZR := hZ.rd
          have hE2 : CV z (blank9 F) E := by
            unfold CV at hE ⊢
            rw [hE]
            show fnV z F = fnV z ⟨F.TT.map blankT, F.h, F.m, F.MM, F.ct, F.GG⟩
            unfold fnV
            simp only [List.length_map]
          have l0 := HL0.out
          have l4 := HL4.out
          have hB5 := HB5.out.nigh hNr (show w4.heap.size ≠ gT by omega)
          have hB7 := HB7.out.nigh hNr (Ne.symm hg6)
          have hB5 : FB wr w4.heap.size y (blank9 F) := hB5
          have hB7 : FB wr w6.heap.size z (blank9 F) := by
            have : FB wr w6.heap.size z F := hB7
            unfold FB at this ⊢
            show BoxL wr w6.heap.size (fnC z (F.TT.map blankT).length F.h F.m F.MM.length F.ct F.GG.length)
            rw [List.length_map]; exact this
          have hQr := HQF.out.nigh hNr (by show w5.heap.size ≤ w7.heap.size; omega) hgb
          have hr3 := (show RdB wr wr.heap.size A3 (file4 (all9 F)) from (RdG.keep HR3.out (fun b o hb => by have := hNr.1.2 b (by omega) (by omega); simp only [World.cell?, this])).more (by have := hNr.1.1; omega))
          have HZR := Lib.hid hZR.1
          have HBN := Lib.hid (blank_nogr HNR.out)
          have HBW := Lib.hid (blank_num HNU.out)
          have HBR := Lib.hid (blank_right HY.out)
          have HFE := Lib.hid (blank_file F)
          have HL1 := Lib.hid (show (blank9 F).TT.length ≤ maxLen by have := HBN.out.tabs; simp only [maxLen]; omega)
          have HL2 := Lib.hid (show (blank9 F).MM.length ≤ maxLen by have := HBN.out.mets; simp only [maxLen]; omega)
          have HL3 := Lib.hid (show (blank9 F).GG.length ≤ maxLen by have := HBN.out.glys; simp only [maxLen]; omega)
          generalize blank9 F = G at *
          clear hOr hZ hZR hE eN k7 hl7r hNr hl7 hl5 hl4 l0 l4 hgb hg6 HB7 HB5 HB1 HQF HQ7 HO7 HR3 hS57
          go_wp2_with (first | (refine fb_load rfl _ rfl (by rfl) (by with_reducible exact hB5) hD ?_) | (go_at_call 9; (with_reducible refine (ag_yes y G D hD _ (HT.out _ hSr) hQr HBN.out HBW.out hgq HBR.out).mono ?_); rintro e wa ⟨Aa, ma, ca, rfl, hma, hra, hmca, hSa⟩; have hSwa := hSr.trans hSa; have hBa5 := hB5.since hSa; have hBa7 := hB7.since hSa; have hv5 := fb_var hD hBa5; have hv7 := fb_var hE2 hBa7; have hQa := hQr.on hSa; have hZa := HZR.out.on hSa; have hr3a := RdG.on hr3 hSa) | (go_at_call 14; (with_reducible refine (same9_cv y z G D E hD hE2 _ hQa hZa HL1.out HL2.out HL3.out).mono ?_); rintro e wb ⟨rfl, hSb⟩; have hSwb := hSwa.trans hSb; have hr3b := RdG.on hr3a hSb; have hrab := RdG.on hra hSb) | (go_at_call 15; (with_reducible refine (same_l A3 Aa m3 ma c3 ca _ _ _ HM3.out.out hma.out hr3b hrab (by rw [HFE.out])).mono ?_); rintro e wd ⟨rfl, rfl⟩))
          go_ret
          exact ⟨by first | rfl | simp, hSwb⟩
    · go_wp2_with fail
      go_ret
      exact ⟨by first | rfl | simp, hS02⟩
  · have HY := Lib.hid hrt
    have HRT := Lib.hid (right9_no hrt)
    clear hrt
    go_enter Tryd.func3, Tryd.ntmps3
    go_upto_region 1 with fail
    refine wp_named fun w0 hw0 => ?_
    have hS0 : Since w w0 := by subst hw0; (repeat (first | with_reducible (exact Since.refl _) | with_reducible assumption | with_reducible (refine Since.drew ?_) | with_reducible (refine Since.drewN ?_ _) | with_reducible (refine Since.alloc ?_ _) | (with_reducible (refine Since.setCell ?_ ?_ _); rotate_left; focus (first | (simp; done) | (simp; omega) | omega)) | (with_reducible (refine Since.trans ?_ (by with_reducible assumption)))))
    have hB0 : FB w0 w.heap.size x F := by subst hw0; rw [HC.out]; exact HBX.out _
    clear hw0 HBX HC
    go_upto_region 5 with (first | (go_at_call 7; (with_reducible refine (alive09 _ (HT.out _ hS0)).mono ?_); rintro e w1 ⟨rfl, hS1⟩; have hS01 := hS0.trans hS1; have hB1 := hB0.since hS1) | (refine fb_load rfl _ rfl (by rfl) (by with_reducible exact hB1) hC ?_) | (go_at_call 8; (with_reducible refine (HGR.out _ hS01).mono ?_); rintro e w2 ⟨g, rfl, hng, hS2⟩; have hS02 := hS01.trans hS2; have hB2 := hB1.since hS2; have HNG := Lib.hid hng; clear hng hB0 hB1 hS1 hS2 hS0; cases g))
    · have HNR := Lib.hid (HNG.out (by first | exact trivial | rfl))
      clear HNG
      go_wp2_with (first | (refine fb_load rfl _ rfl (by rfl) (by first | with_reducible exact hB3 | with_reducible exact hB2) hC ?_) | (go_at_call 9; (with_reducible refine (fb_none x F C hC _ (HT.out _ hS02) (HRD.out _ hS02) HNR.out HNU.out HGC.out HY.out).mono ?_); rintro e w3 ⟨A3, c3, rfl, hS3⟩; have hS03 := hS02.trans hS3; have hB3 := hB2.since hS3) | (go_at_call 10; (with_reducible refine (ag_right x F C hC _ (HT.out _ hS03) (HRD.out _ hS03) HNR.out HNU.out HGC.out false HRT.out).mono ?_); rintro e w4 ⟨rfl, hS4⟩; have hS04 := hS03.trans hS4))
      go_ret
      exact ⟨by first | rfl | simp, hS04⟩
    · go_wp2_with fail
      go_ret
      exact ⟨by first | rfl | simp, hS02⟩
end Go.Proofs.YteckkcpnfeoehaaDoor
