/-
  Texts of this seat, put together: each with its own head.
-/
import Derived.Test.YteckkcpnfeoehaaGreatDoorMpF
import Derived.Test.YteckkcpnfeoehaaGreatDoorMnAf
import Derived.Test.YteckkcpnfeoehaaGreatDoorMnAj

/-
  Layer 4: 'read', walked.
-/
namespace Go.Proofs.YteckkcpnfeoehaaGreatDoor
set_option maxRecDepth 100000
open Go.RowKit Go.ChangeShapes Go.WideShapes Go.Deep
set_option linter.unusedVariables false
set_option linter.unusedSimpArgs false

/-- What 'read' leaves. -/
def RdP4 (R : Int × Tb) (w : World) (e : Ending) (w' : World) : Prop := ∃ v, e = .returned (.tuple #[.agg #[.string R.2.tag, v], .int .i64 R.1]) ∧ OwnB w' w.heap.size v R.2.data ∧ Since w w'
theorem rdp4_no {R : Int × Tb} {w w' : World} {x : Int} (h : R = (x, ⟨ByteArray.empty, []⟩)) (hS : Since w w') : RdP4 R w (.returned (.tuple #[.agg #[.string { data := #[] }, .slice none 0 0], .int .i64 x])) w' := by
  subst h
  exact ⟨_, rfl, OwnG.nil _ _ _ _ _, hS⟩
theorem rdp4_ok {R : Int × Tb} {w w' : World} {s : ByteArray} {v : Value} {DL : List Int} (h : R = (0, ⟨s, DL⟩)) (hO : OwnB w' w.heap.size v DL) (hS : Since w w') : RdP4 R w (.returned (.tuple #[.agg #[.string s, v], .int .i64 0])) w' := by
  subst h
  exact ⟨_, rfl, hO, hS⟩
theorem own_setlow {w : World} {base b : Nat} {v : Value} {L : List Int} (h : OwnB w base v L) (hb : b < base) (o : Nat) (x : Value) : OwnB (w.setCell ⟨b, o, none⟩ x) base v L :=
  OwnG.keep h fun y hy _ => by simp [World.setCell, Array.getElem?_modify, show ¬ b = y by omega]
set_option maxRecDepth 1000000 in
set_option maxHeartbeats 32000000 in
theorem sf_read1 (A : Option Addr) (n c : Nat) (L : List Int) (a : Nat) (last : ByteArray) (w : World) (h : RdB w w.heap.size A L) (hn : n = L.length) (hb : Bytes L) (ha : a + 16 ≤ n) (hN : n ≤ 1048576) (hnc : n ≤ c) :
    Calls Tryz.prog 98 #[.slice A n c, .int .i64 (a : Int), .string last] w (RdP4 (rd1 L a last) w) := by
  obtain ⟨b, o, rfl, hbz, hc⟩ := id (h (by omega))
  have HM := Lib.hid (cutL_len (L := L) (p := a) (m := 4) (by omega))
  have hcv : ∀ k, (convert 34 9 (.slice (some ⟨b, o + a, none⟩) 4 k)).run Tryz.prog (w.alloc (.cells #[.string { data := #[] }, .slice none 0 0] 49)) = .ok (.string (strOf (cutL L a 4))) (w.alloc (.cells #[.string { data := #[] }, .slice none 0 0] 49)) := fun k => conv_str (fun j hj => by
    rw [HM.out] at hj
    have h1 := hc (a + j) _ (fnL_get (by omega)) 0 (by omega)
    rw [cutL_get hj, ((Since.refl w).alloc (.cells #[.string { data := #[] }, .slice none 0 0] 49)).1 b _ hbz]
    rw [show o + (a + j) * 1 + 0 = o + a + j by omega] at h1
    exact h1) (bytes_cut hb a 4) 4 HM.out.symm k
  have hst : (strOf (cutL L a 4)).size ≤ maxLen := by
    have : (strOf (cutL L a 4)).size = 4 := by
      show (List.toArray _).size = 4
      rw [List.size_toArray, List.length_map, HM.out]
    rw [this]; simp only [maxLen]; omega
  have HPR := Lib.hid (fun w2 => sf_printable (strOf (cutL L a 4)) w2 hst)
  have HU4 := Lib.hid (fun (w2 : World) (h2 : Since w w2) => u4_l (some ⟨b, o, none⟩) n c L (a + 4) ((a : Int) + 4) (by omega) w2 (h.on h2) hn hb (by omega) (by omega))
  have HU8 := Lib.hid (fun (w2 : World) (h2 : Since w w2) => u4_l (some ⟨b, o, none⟩) n c L (a + 8) ((a : Int) + 8) (by omega) w2 (h.on h2) hn hb (by omega) (by omega))
  have HU12 := Lib.hid (fun (w2 : World) (h2 : Since w w2) => u4_l (some ⟨b, o, none⟩) n c L (a + 12) ((a : Int) + 12) (by omega) w2 (h.on h2) hn hb (by omega) (by omega))
  have r4 := num4_range L hb (a + 4) (by omega)
  have r8 := num4_range L hb (a + 8) (by omega)
  have r12 := num4_range L hb (a + 12) (by omega)
  obtain ⟨RR, ER⟩ : ∃ RR, RR = rd1 L a last := ⟨_, rfl⟩
  rw [← ER]
  unfold rd1 at ER
  have haI : (a : Int) + 4 ≤ (c : Int) := by omega
  have hac : ¬ a = c := by omega
  have hacI : (a : Int) ≤ (c : Int) := by omega
  have ha0 : (a : Int) ≤ (a : Int) + 4 := by omega
  have m4 : IntKind.i64.wrap ((a : Int) + 4) = (a : Int) + 4 := by rw [IntKind.wrap_i64]; omega
  have m8 : IntKind.i64.wrap ((a : Int) + 8) = (a : Int) + 8 := by rw [IntKind.wrap_i64]; omega
  have m12 : IntKind.i64.wrap ((a : Int) + 12) = (a : Int) + 12 := by rw [IntKind.wrap_i64]; omega
  generalize strOf (cutL L a 4) = s at *
  have HN := Lib.hid hn
  have HB := Lib.hid hb
  clear hn hb
  obtain ⟨tg, htg⟩ : ∃ tg, TagG s = tg := ⟨_, rfl⟩
  obtain ⟨ls, hls⟩ : ∃ ls, Op.bytesLess last.toList s.toList = ls := ⟨_, rfl⟩
  rw [htg] at HPR
  rw [htg, hls] at ER
  have HLS := Lib.hid hls
  clear htg
  cases tg
  · rw [if_pos (.inl rfl)] at ER
    have E := Lib.hid ER
    clear ER h hc HU4 HU8 HU12 hls r4 r8 r12
    go_enter Tryz.func98, Tryz.ntmps98
    go_wp2_with (go_at_call 77; (with_reducible refine (HPR.out _).mono ?_); rintro e w2 ⟨rfl, hw2⟩; have hw3 := hw2.symm; subst hw3; clear hw2)
    refine bodyPost_ret (by simp only [results, Tryz.results98]; go_simp) rfl (rdp4_no E.out (by (repeat (first | with_reducible (exact Since.refl _) | with_reducible assumption | with_reducible (refine Since.drew ?_) | with_reducible (refine Since.drewN ?_ _) | with_reducible (refine Since.alloc ?_ _) | (with_reducible (refine Since.setCell ?_ ?_ _); rotate_left; focus (first | (simp; done) | (simp; omega) | omega)) | (with_reducible (refine Since.trans ?_ (by with_reducible assumption)))))))
  have htri := less_tri last.toList s.toList
  rw [HLS.out] at htri
  clear hls
  cases ls
  · rw [if_pos (.inr rfl)] at ER
    have E := Lib.hid ER
    clear ER h hc HU4 HU8 HU12 r4 r8 r12
    obtain ⟨a1, ha1⟩ : ∃ a1, Op.bytesLess s.toList last.toList = a1 := ⟨_, rfl⟩
    rw [ha1] at htri
    cases a1
    · have he1 : s.toList = last.toList := by simpa using htri
      clear htri
      go_enter Tryz.func98, Tryz.ntmps98
      go_wp2_with (go_at_call 77; (with_reducible refine (HPR.out _).mono ?_); rintro e w2 ⟨rfl, hw2⟩; have hw3 := hw2.symm; subst hw3; clear hw2)
      refine bodyPost_ret (by simp only [results, Tryz.results98]; go_simp) rfl (rdp4_no E.out (by (repeat (first | with_reducible (exact Since.refl _) | with_reducible assumption | with_reducible (refine Since.drew ?_) | with_reducible (refine Since.drewN ?_ _) | with_reducible (refine Since.alloc ?_ _) | (with_reducible (refine Since.setCell ?_ ?_ _); rotate_left; focus (first | (simp; done) | (simp; omega) | omega)) | (with_reducible (refine Since.trans ?_ (by with_reducible assumption)))))))
    · clear htri
      go_enter Tryz.func98, Tryz.ntmps98
      go_wp2_with (go_at_call 77; (with_reducible refine (HPR.out _).mono ?_); rintro e w2 ⟨rfl, hw2⟩; have hw3 := hw2.symm; subst hw3; clear hw2)
      refine bodyPost_ret (by simp only [results, Tryz.results98]; go_simp) rfl (rdp4_no E.out (by (repeat (first | with_reducible (exact Since.refl _) | with_reducible assumption | with_reducible (refine Since.drew ?_) | with_reducible (refine Since.drewN ?_ _) | with_reducible (refine Since.alloc ?_ _) | (with_reducible (refine Since.setCell ?_ ?_ _); rotate_left; focus (first | (simp; done) | (simp; omega) | omega)) | (with_reducible (refine Since.trans ?_ (by with_reducible assumption)))))))
  have ha1 : Op.bytesLess s.toList last.toList = false := by
    cases ha : Op.bytesLess s.toList last.toList
    · rfl
    · rw [ha] at htri; simp at htri
  have he1 : (s.toList == last.toList) = false := by
    rw [ha1] at htri
    simpa using htri.symm
  clear htri
  rw [if_neg (by simp)] at ER
  obtain ⟨m, hm⟩ : ∃ m : Nat, numAt (fnL L) (a + 12) 4 = m := ⟨(numAt (fnL L) (a + 12) 4).toNat, by omega⟩
  obtain ⟨q, hq⟩ : ∃ q : Nat, numAt (fnL L) (a + 8) 4 = q := ⟨(numAt (fnL L) (a + 8) 4).toNat, by omega⟩
  obtain ⟨sg, hsg⟩ : ∃ sg, numAt (fnL L) (a + 4) 4 = sg := ⟨_, rfl⟩
  rw [hm, hq, hsg] at ER
  rw [hm] at HU12 r12
  rw [hq] at HU8 r8
  rw [hsg] at HU4 r4
  simp only [Int.toNat_natCast] at ER
  clear hm hq hsg
  have hsgw : IntKind.u32.wrap sg = sg := by rw [IntKind.wrap_u32]; omega
  have hwm0 : Since w (w.alloc (.cells #[.string { data := #[] }, .slice none 0 0] 49)) := (Since.refl w).alloc _
  have hT0 := Lib.hid (two_new w w.heap.size rfl (.string { data := #[] }) (.slice none 0 0) 49)
  have hnc2 := hnc
  clear hnc
  by_cases hfit : ¬ m = 0 ∧ L.length < q + m
  · rw [if_neg hfit.1, if_pos hfit.2] at ER
    have E := Lib.hid ER
    have d0 : ¬ (m : Int) = 0 := by have := hfit.1; omega
    have HCT := Lib.hid (fun (w2 : World) (h2 : Since w w2) => cut_no4 (some ⟨b, o, none⟩) n c L q m (q : Int) (m : Int) rfl rfl w2 (h.on h2) HN.out (by omega) hnc2 (by have := HN.out; omega) (by omega) (by omega))
    clear ER h hc r4 r8 r12 hfit hsgw
    go_enter Tryz.func98, Tryz.ntmps98
    go_wp2_with (first | (go_at_call 77; (with_reducible refine (HPR.out _).mono ?_); rintro e w2 ⟨rfl, hw2⟩; have hw3 := hw2.symm; subst hw3; clear hw2) | (go_at_call 97; (with_reducible refine (HU4.out _ hwm0).mono ?_); rintro e w2 ⟨rfl, hw2⟩; have hw3 := hw2.symm; subst hw3; clear hw2) | (go_at_call 97; (with_reducible refine (HU8.out _ hwm0).mono ?_); rintro e w2 ⟨rfl, hw2⟩; have hw3 := hw2.symm; subst hw3; clear hw2) | (go_at_call 97; (with_reducible refine (HU12.out _ hwm0).mono ?_); rintro e w2 ⟨rfl, hw2⟩; have hw3 := hw2.symm; subst hw3; clear hw2) | (go_at_call 123; (with_reducible refine (HCT.out _ hwm0).mono ?_); rintro e w4 ⟨A4, k4, rfl, hS4⟩; obtain ⟨t1, t2, t3, t4, t5⟩ := hT0.out.since hS4))
    refine bodyPost_ret (by simp only [results, Tryz.results98]; go_simp) rfl (rdp4_no E.out (by (repeat (first | with_reducible (exact Since.refl _) | with_reducible assumption | with_reducible (refine Since.drew ?_) | with_reducible (refine Since.drewN ?_ _) | with_reducible (refine Since.alloc ?_ _) | (with_reducible (refine Since.setCell ?_ ?_ _); rotate_left; focus (first | (simp; done) | (simp; omega) | omega)) | (with_reducible (refine Since.trans ?_ (by with_reducible assumption)))))))
  have HM0 := Lib.hid (show m = 0 ∨ ¬ L.length < q + m by omega)
  clear hfit
  by_cases hm0 : m = 0

  · first | (subst hm0; rw [show ((0 : Nat) : Int) = 0 from rfl] at HU12 r12) | skip
    have hle : 0 + 0 ≤ L.length := by rcases HM0.out with h1 | h1 <;> omega
    have ER2 : RR = if sumI (blank4 ⟨s, cutL L 0 0⟩) = sg then (0, ⟨s, blank4 ⟨s, cutL L 0 0⟩⟩) else (5, ⟨ByteArray.empty, []⟩) := by
      first | (rw [if_pos rfl, if_neg (by omega)] at ER; exact ER) | (rw [if_neg hm0, if_neg (by omega)] at ER; exact ER)
    first | (have d1 : ¬ (0 : Int) = 0 := by omega) | skip
    clear ER
    have ER := ER2
    clear ER2
    have HCT := Lib.hid (fun (w2 : World) (h2 : Since w w2) => cut_yes4 (some ⟨b, o, none⟩) n c L 0 0 0 0 (by omega) (by omega) w2 (h.on h2) HN.out (by omega) hnc2 (by have := HN.out; omega))
    have hcl := cutL_len hle
    have hcb := bytes_cut HB.out 0 0
    have hUN := sf_unadj ⟨s, cutL L 0 0⟩
    have hdl := blank4_len ⟨s, cutL L 0 0⟩
    have hdb := bytes_blank (T := ⟨s, cutL L 0 0⟩) hcb
    simp only at hUN hdl
    rw [hcl] at hdl
    have HC : Hid (∀ w2 A' c', RdB w2 w2.heap.size A' (cutL L 0 0) → Calls Tryz.prog 63 #[.agg #[.string s, .slice A' 0 c']] w2 fun e w' => ∃ Ad cd, e = .returned (.slice Ad 0 cd) ∧ OwnB w' w2.heap.size (.slice Ad 0 cd) (blank4 ⟨s, cutL L 0 0⟩) ∧ Since w2 w') := Lib.hid (fun w2 A' c' hr => (hUN A' 0 c' w2 hr hcl.symm (by omega)).mono (by
      rintro e w' ⟨v, rfl, hO, hS⟩
      obtain ⟨Ad, cd, rfl, _, _⟩ := hO.rd (by omega) byL_len
      rw [hdl] at hO ⊢
      exact ⟨Ad, cd, rfl, hO, hS⟩))
    have hsr := sumI_range (blank4 ⟨s, cutL L 0 0⟩)
    have HSM := Lib.hid (fun Ad cd w2 hr => sf_sum Ad 0 cd (blank4 ⟨s, cutL L 0 0⟩) w2 hr hdl.symm hdb (by omega))
    generalize blank4 ⟨s, cutL L 0 0⟩ = DL at *
    obtain ⟨sm, hsm⟩ : ∃ sm, sumI DL = sm := ⟨_, rfl⟩
    rw [hsm] at HSM ER hsr
    clear hsm hUN hdl hdb hcb hcl h hc hle HM0 r4 r8 r12
    first | clear hm0 | skip
    by_cases hsg : sm = sg
    · rw [if_pos hsg] at ER
      have E := Lib.hid ER
      clear ER
      go_enter Tryz.func98, Tryz.ntmps98
      go_wp2_with (first | (go_at_call 77; (with_reducible refine (HPR.out _).mono ?_); rintro e w2 ⟨rfl, hw2⟩; have hw3 := hw2.symm; subst hw3; clear hw2) | (go_at_call 97; (with_reducible refine (HU4.out _ hwm0).mono ?_); rintro e w2 ⟨rfl, hw2⟩; have hw3 := hw2.symm; subst hw3; clear hw2) | (go_at_call 97; (with_reducible refine (HU8.out _ hwm0).mono ?_); rintro e w2 ⟨rfl, hw2⟩; have hw3 := hw2.symm; subst hw3; clear hw2) | (go_at_call 97; (with_reducible refine (HU12.out _ hwm0).mono ?_); rintro e w2 ⟨rfl, hw2⟩; have hw3 := hw2.symm; subst hw3; clear hw2) | (go_at_call 123; (with_reducible refine (HCT.out _ hwm0).mono ?_); rintro e w4 ⟨A4, k4, rfl, hr4, hS4⟩; have hT4 := hT0.out.since hS4; have hW4 := hwm0.trans hS4) | (go_at_call 63; (with_reducible refine (HC.out _ _ _ (hr4.on ((Since.refl w4).alloc _))).mono ?_); rintro e w5 ⟨Ad, cd, rfl, hOd, hSd⟩; obtain ⟨u1, u2, u3, u4, u5⟩ := (two_new w4 w4.heap.size rfl (.string s) (.slice A4 0 k4) 49).since hSd; obtain ⟨t1, t2, t3, t4, t5⟩ := (hT4.since ((Since.refl w4).alloc _)).since hSd; have hne : ¬ w4.heap.size = w.heap.size := (by have := hT4.2.2.2.2; omega); have hne2 : ¬ w.heap.size = w4.heap.size := (fun e => hne e.symm); have hO6 := own_setlow hOd (show w4.heap.size < (w4.alloc (.cells #[.string s, .slice A4 0 k4] 49)).heap.size by simp) 1 (.slice Ad 0 cd); have hr6 := own_rdw hO6; have hS6 : Since w (w5.setCell ⟨w4.heap.size, 1, none⟩ (.slice Ad 0 cd)) := (hW4.trans (((Since.refl w4).alloc _).trans hSd)).setCell hW4.below.size _) | (go_at_call 65; (with_reducible refine (HSM.out Ad cd _ hr6).mono ?_); rintro e w6 ⟨rfl, hw6⟩; subst hw6))
      have hlt : w.heap.size < (w4.alloc (.cells #[.string s, .slice A4 0 k4] 49)).heap.size := by have := hT4.2.2.2.2; simp; omega
      refine bodyPost_ret (by simp only [results, Tryz.results98]; go_simp) rfl (rdp4_ok E.out ((own_setlow (own_setlow hO6 hlt 0 (.string s)) hlt 1 (.slice Ad 0 cd)).low (Nat.le_of_lt hlt)) ((hS6.setCell (Nat.le_refl _) _).setCell (Nat.le_refl _) _))
    · rw [if_neg hsg] at ER
      have E := Lib.hid ER
      clear ER
      go_enter Tryz.func98, Tryz.ntmps98
      go_wp2_with (first | (go_at_call 77; (with_reducible refine (HPR.out _).mono ?_); rintro e w2 ⟨rfl, hw2⟩; have hw3 := hw2.symm; subst hw3; clear hw2) | (go_at_call 97; (with_reducible refine (HU4.out _ hwm0).mono ?_); rintro e w2 ⟨rfl, hw2⟩; have hw3 := hw2.symm; subst hw3; clear hw2) | (go_at_call 97; (with_reducible refine (HU8.out _ hwm0).mono ?_); rintro e w2 ⟨rfl, hw2⟩; have hw3 := hw2.symm; subst hw3; clear hw2) | (go_at_call 97; (with_reducible refine (HU12.out _ hwm0).mono ?_); rintro e w2 ⟨rfl, hw2⟩; have hw3 := hw2.symm; subst hw3; clear hw2) | (go_at_call 123; (with_reducible refine (HCT.out _ hwm0).mono ?_); rintro e w4 ⟨A4, k4, rfl, hr4, hS4⟩; have hT4 := hT0.out.since hS4; have hW4 := hwm0.trans hS4) | (go_at_call 63; (with_reducible refine (HC.out _ _ _ (hr4.on ((Since.refl w4).alloc _))).mono ?_); rintro e w5 ⟨Ad, cd, rfl, hOd, hSd⟩; obtain ⟨u1, u2, u3, u4, u5⟩ := (two_new w4 w4.heap.size rfl (.string s) (.slice A4 0 k4) 49).since hSd; obtain ⟨t1, t2, t3, t4, t5⟩ := (hT4.since ((Since.refl w4).alloc _)).since hSd; have hne : ¬ w4.heap.size = w.heap.size := (by have := hT4.2.2.2.2; omega); have hne2 : ¬ w.heap.size = w4.heap.size := (fun e => hne e.symm); have hO6 := own_setlow hOd (show w4.heap.size < (w4.alloc (.cells #[.string s, .slice A4 0 k4] 49)).heap.size by simp) 1 (.slice Ad 0 cd); have hr6 := own_rdw hO6; have hS6 : Since w (w5.setCell ⟨w4.heap.size, 1, none⟩ (.slice Ad 0 cd)) := (hW4.trans (((Since.refl w4).alloc _).trans hSd)).setCell hW4.below.size _) | (go_at_call 65; (with_reducible refine (HSM.out Ad cd _ hr6).mono ?_); rintro e w6 ⟨rfl, hw6⟩; subst hw6))
      refine bodyPost_ret (by simp only [results, Tryz.results98]; go_simp) rfl (rdp4_no E.out (by first | exact (hS6.setCell (Nat.le_refl _) _).setCell (Nat.le_refl _) _ | exact hS6))

  · first | (subst hm0; rw [show ((0 : Nat) : Int) = 0 from rfl] at HU12 r12) | skip
    have hle : q + m ≤ L.length := by rcases HM0.out with h1 | h1 <;> omega
    have ER2 : RR = if sumI (blank4 ⟨s, cutL L q m⟩) = sg then (0, ⟨s, blank4 ⟨s, cutL L q m⟩⟩) else (5, ⟨ByteArray.empty, []⟩) := by
      first | (rw [if_pos rfl, if_neg (by omega)] at ER; exact ER) | (rw [if_neg hm0, if_neg (by omega)] at ER; exact ER)
    first | (have d1 : ¬ (m : Int) = 0 := by omega) | skip
    clear ER
    have ER := ER2
    clear ER2
    have HCT := Lib.hid (fun (w2 : World) (h2 : Since w w2) => cut_yes4 (some ⟨b, o, none⟩) n c L q m ↑q ↑m (by omega) (by omega) w2 (h.on h2) HN.out (by omega) hnc2 (by have := HN.out; omega))
    have hcl := cutL_len hle
    have hcb := bytes_cut HB.out q m
    have hUN := sf_unadj ⟨s, cutL L q m⟩
    have hdl := blank4_len ⟨s, cutL L q m⟩
    have hdb := bytes_blank (T := ⟨s, cutL L q m⟩) hcb
    simp only at hUN hdl
    rw [hcl] at hdl
    have HC : Hid (∀ w2 A' c', RdB w2 w2.heap.size A' (cutL L q m) → Calls Tryz.prog 63 #[.agg #[.string s, .slice A' m c']] w2 fun e w' => ∃ Ad cd, e = .returned (.slice Ad m cd) ∧ OwnB w' w2.heap.size (.slice Ad m cd) (blank4 ⟨s, cutL L q m⟩) ∧ Since w2 w') := Lib.hid (fun w2 A' c' hr => (hUN A' m c' w2 hr hcl.symm (by omega)).mono (by
      rintro e w' ⟨v, rfl, hO, hS⟩
      obtain ⟨Ad, cd, rfl, _, _⟩ := hO.rd (by omega) byL_len
      rw [hdl] at hO ⊢
      exact ⟨Ad, cd, rfl, hO, hS⟩))
    have hsr := sumI_range (blank4 ⟨s, cutL L q m⟩)
    have HSM := Lib.hid (fun Ad cd w2 hr => sf_sum Ad m cd (blank4 ⟨s, cutL L q m⟩) w2 hr hdl.symm hdb (by omega))
    generalize blank4 ⟨s, cutL L q m⟩ = DL at *
    obtain ⟨sm, hsm⟩ : ∃ sm, sumI DL = sm := ⟨_, rfl⟩
    rw [hsm] at HSM ER hsr
    clear hsm hUN hdl hdb hcb hcl h hc hle HM0 r4 r8 r12
    first | clear hm0 | skip
    by_cases hsg : sm = sg
    · rw [if_pos hsg] at ER
      have E := Lib.hid ER
      clear ER
      go_enter Tryz.func98, Tryz.ntmps98
      go_wp2_with (first | (go_at_call 77; (with_reducible refine (HPR.out _).mono ?_); rintro e w2 ⟨rfl, hw2⟩; have hw3 := hw2.symm; subst hw3; clear hw2) | (go_at_call 97; (with_reducible refine (HU4.out _ hwm0).mono ?_); rintro e w2 ⟨rfl, hw2⟩; have hw3 := hw2.symm; subst hw3; clear hw2) | (go_at_call 97; (with_reducible refine (HU8.out _ hwm0).mono ?_); rintro e w2 ⟨rfl, hw2⟩; have hw3 := hw2.symm; subst hw3; clear hw2) | (go_at_call 97; (with_reducible refine (HU12.out _ hwm0).mono ?_); rintro e w2 ⟨rfl, hw2⟩; have hw3 := hw2.symm; subst hw3; clear hw2) | (go_at_call 123; (with_reducible refine (HCT.out _ hwm0).mono ?_); rintro e w4 ⟨A4, k4, rfl, hr4, hS4⟩; have hT4 := hT0.out.since hS4; have hW4 := hwm0.trans hS4) | (go_at_call 63; (with_reducible refine (HC.out _ _ _ (hr4.on ((Since.refl w4).alloc _))).mono ?_); rintro e w5 ⟨Ad, cd, rfl, hOd, hSd⟩; obtain ⟨u1, u2, u3, u4, u5⟩ := (two_new w4 w4.heap.size rfl (.string s) (.slice A4 m k4) 49).since hSd; obtain ⟨t1, t2, t3, t4, t5⟩ := (hT4.since ((Since.refl w4).alloc _)).since hSd; have hne : ¬ w4.heap.size = w.heap.size := (by have := hT4.2.2.2.2; omega); have hne2 : ¬ w.heap.size = w4.heap.size := (fun e => hne e.symm); have hO6 := own_setlow hOd (show w4.heap.size < (w4.alloc (.cells #[.string s, .slice A4 m k4] 49)).heap.size by simp) 1 (.slice Ad m cd); have hr6 := own_rdw hO6; have hS6 : Since w (w5.setCell ⟨w4.heap.size, 1, none⟩ (.slice Ad m cd)) := (hW4.trans (((Since.refl w4).alloc _).trans hSd)).setCell hW4.below.size _) | (go_at_call 65; (with_reducible refine (HSM.out Ad cd _ hr6).mono ?_); rintro e w6 ⟨rfl, hw6⟩; subst hw6))
      have hlt : w.heap.size < (w4.alloc (.cells #[.string s, .slice A4 m k4] 49)).heap.size := by have := hT4.2.2.2.2; simp; omega
      refine bodyPost_ret (by simp only [results, Tryz.results98]; go_simp) rfl (rdp4_ok E.out ((own_setlow (own_setlow hO6 hlt 0 (.string s)) hlt 1 (.slice Ad m cd)).low (Nat.le_of_lt hlt)) ((hS6.setCell (Nat.le_refl _) _).setCell (Nat.le_refl _) _))
    · rw [if_neg hsg] at ER
      have E := Lib.hid ER
      clear ER
      go_enter Tryz.func98, Tryz.ntmps98
      go_wp2_with (first | (go_at_call 77; (with_reducible refine (HPR.out _).mono ?_); rintro e w2 ⟨rfl, hw2⟩; have hw3 := hw2.symm; subst hw3; clear hw2) | (go_at_call 97; (with_reducible refine (HU4.out _ hwm0).mono ?_); rintro e w2 ⟨rfl, hw2⟩; have hw3 := hw2.symm; subst hw3; clear hw2) | (go_at_call 97; (with_reducible refine (HU8.out _ hwm0).mono ?_); rintro e w2 ⟨rfl, hw2⟩; have hw3 := hw2.symm; subst hw3; clear hw2) | (go_at_call 97; (with_reducible refine (HU12.out _ hwm0).mono ?_); rintro e w2 ⟨rfl, hw2⟩; have hw3 := hw2.symm; subst hw3; clear hw2) | (go_at_call 123; (with_reducible refine (HCT.out _ hwm0).mono ?_); rintro e w4 ⟨A4, k4, rfl, hr4, hS4⟩; have hT4 := hT0.out.since hS4; have hW4 := hwm0.trans hS4) | (go_at_call 63; (with_reducible refine (HC.out _ _ _ (hr4.on ((Since.refl w4).alloc _))).mono ?_); rintro e w5 ⟨Ad, cd, rfl, hOd, hSd⟩; obtain ⟨u1, u2, u3, u4, u5⟩ := (two_new w4 w4.heap.size rfl (.string s) (.slice A4 m k4) 49).since hSd; obtain ⟨t1, t2, t3, t4, t5⟩ := (hT4.since ((Since.refl w4).alloc _)).since hSd; have hne : ¬ w4.heap.size = w.heap.size := (by have := hT4.2.2.2.2; omega); have hne2 : ¬ w.heap.size = w4.heap.size := (fun e => hne e.symm); have hO6 := own_setlow hOd (show w4.heap.size < (w4.alloc (.cells #[.string s, .slice A4 m k4] 49)).heap.size by simp) 1 (.slice Ad m cd); have hr6 := own_rdw hO6; have hS6 : Since w (w5.setCell ⟨w4.heap.size, 1, none⟩ (.slice Ad m cd)) := (hW4.trans (((Since.refl w4).alloc _).trans hSd)).setCell hW4.below.size _) | (go_at_call 65; (with_reducible refine (HSM.out Ad cd _ hr6).mono ?_); rintro e w6 ⟨rfl, hw6⟩; subst hw6))
      refine bodyPost_ret (by simp only [results, Tryz.results98]; go_simp) rfl (rdp4_no E.out (by first | exact (hS6.setCell (Nat.le_refl _) _).setCell (Nat.le_refl _) _ | exact hS6))

end Go.Proofs.YteckkcpnfeoehaaGreatDoor

/-
  Layer 4: what a font is read as; a row of tables that is written one by one.
-/
namespace Go.Proofs.YteckkcpnfeoehaaGreatDoor
set_option maxRecDepth 100000
open Go.RowKit Go.ChangeShapes Go.WideShapes Go.Deep
set_option linter.unusedVariables false
set_option linter.unusedSimpArgs false

/-- The tables of the entries from the i-th on: why they can't be read; they. -/
def rd4Go (L : List Int) : Nat → Nat → ByteArray → Int × List Tb
  | 0, _, _ => (0, [])
  | k + 1, i, last => if (rd1 L (12 + 16 * i) last).1 = 0 then
      (if (rd4Go L k (i + 1) (rd1 L (12 + 16 * i) last).2.tag).1 = 0 then (0, (rd1 L (12 + 16 * i) last).2 :: (rd4Go L k (i + 1) (rd1 L (12 + 16 * i) last).2.tag).2) else ((rd4Go L k (i + 1) (rd1 L (12 + 16 * i) last).2.tag).1, []))
    else ((rd1 L (12 + 16 * i) last).1, [])
def contR (q : Int × List Tb) (D : List Tb) : Int × List Tb := if q.1 = 0 then (0, D ++ q.2) else (q.1, [])
theorem rd4_next {L : List Int} {k i : Nat} {last : ByteArray} {D : List Tb} (h : (rd1 L (12 + 16 * i) last).1 = 0) : contR (rd4Go L (k + 1) i last) D = contR (rd4Go L k (i + 1) (rd1 L (12 + 16 * i) last).2.tag) (D ++ [(rd1 L (12 + 16 * i) last).2]) := by
  rw [rd4Go, if_pos h]
  unfold contR
  by_cases h2 : (rd4Go L k (i + 1) (rd1 L (12 + 16 * i) last).2.tag).1 = 0
  · rw [if_pos h2, if_pos h2, if_pos rfl, List.append_assoc]; rfl
  · rw [if_neg h2, if_neg h2, if_neg h2]
theorem rd4_stop {L : List Int} {k i : Nat} {last : ByteArray} {D : List Tb} (h : (rd1 L (12 + 16 * i) last).1 ≠ 0) : contR (rd4Go L (k + 1) i last) D = ((rd1 L (12 + 16 * i) last).1, []) := by
  rw [rd4Go, if_neg h]
  unfold contR
  rw [if_neg h]
/-- A font: why it can't be read; its tables. -/
def rd4 (L : List Int) : Int × List Tb :=
  if 1048576 < L.length then (7, [])
  else if L.length < 12 then (3, [])
  else if numAt (fnL L) 0 4 ≠ 65536 ∨ numAt (fnL L) 4 2 < 1 ∨ 64 < numAt (fnL L) 4 2 then (4, [])
  else if L.length < 12 + 16 * (numAt (fnL L) 4 2).toNat then (3, [])
  else rd4Go L (numAt (fnL L) 4 2).toNat 0 ByteArray.empty
theorem infoTb2 : ∃ i z, Tryz.prog.info? 49 = some i ∧ i.zero = some z ∧ i.size = 2 ∧ i.bytes = 40 ∧ z.cells.toList = thL ⟨ByteArray.empty, none, 0, 0⟩ := by
  obtain ⟨i0, hi, hz0, hz1, hz2⟩ := info_parts infoTb0
  exact ⟨i0, _, hi, hz0, hz1, hz2, rfl⟩
theorem cellsTh_set : ∀ (hs : List Th) (j : Nat) (x : Th), j < hs.length → ((cellsG thL hs).set (j * 2) (.string x.tag)).set (j * 2 + 1) (.slice x.A x.n x.c) = cellsG thL (hs.set j x) := by
  intro hs
  induction hs with
  | nil => intro j x h; simp at h
  | cons a r ih =>
    intro j x h
    cases j with
    | zero => rfl
    | succ j =>
      have h1 := ih j x (by simpa using h)
      unfold cellsG at h1 ⊢
      rw [List.flatMap_cons, List.set_cons_succ, List.flatMap_cons, ← h1]
      show List.set (List.set (Value.string a.tag :: Value.slice a.A a.n a.c :: _) _ _) _ _ = _
      rw [show (j + 1) * 2 = j * 2 + 1 + 1 by omega]
      rfl
theorem own_thset {w : World} {base q n c : Nat} {hs : List Th} (h : OwnG 49 2 thL w base (.slice (some ⟨q, 0, none⟩) n c) hs) {j : Nat} (hj : j < hs.length) (x : Th) :
    OwnG 49 2 thL ((w.setCell ⟨q, j * 2, none⟩ (.string x.tag)).setCell ⟨q, j * 2 + 1, none⟩ (.slice x.A x.n x.c)) base (.slice (some ⟨q, 0, none⟩) n c) (hs.set j x) := by
  have hn : n = hs.length := by
    rcases h.2 with ⟨h0, _⟩ | ⟨g, cap, cur, h0, _⟩
    · cases h0
    · injection h0 with _ h1 _
  subst hn
  have h3 := (World.ownsRow.stored (World.ownsRow.stored h (j * 2) (.string x.tag)).1 (j * 2 + 1) (.slice x.A x.n x.c)).1
  rw [cellsTh_set hs j x hj] at h3
  unfold OwnG
  rw [List.length_set]
  exact h3
theorem own_thcell {w : World} {base q n c : Nat} {hs : List Th} (h : OwnG 49 2 thL w base (.slice (some ⟨q, 0, none⟩) n c) hs) {j : Nat} (hj : j < hs.length) : (∃ x, w.cell? ⟨q, j * 2, none⟩ = some (.string x)) ∧ (∃ A m k, w.cell? ⟨q, j * 2 + 1, none⟩ = some (.slice A m k)) ∧ w.frozen? ⟨q, j * 2, none⟩ = false ∧ w.frozen? ⟨q, j * 2 + 1, none⟩ = false ∧ q < w.heap.size := by
  have hn : n = hs.length := by
    rcases h.2 with ⟨h0, _⟩ | ⟨g, cap, cur, h0, _⟩
    · cases h0
    · injection h0 with _ h1 _
  subst hn
  have hx : hs[j]? = some hs[j] := List.getElem?_eq_getElem hj
  have hlt := (h.lt (g := q) rfl).2
  have hx2 := h
  unfold OwnG at hx2
  have hf0 := World.ownsRow.frozenAt hx2 (j * 2)
  have hf1 := World.ownsRow.frozenAt hx2 (j * 2 + 1)
  obtain ⟨A2, c2, e, _, hr2⟩ := h.rd (by omega) thL_len
  injection e with e1 e2 e3
  subst e1
  obtain ⟨b3, o3, e4, _, hc3⟩ := hr2 (by omega)
  injection e4 with e4
  injection e4 with e5 e6
  subst e5 e6
  have h0 := hc3 j _ hx 0 (by omega)
  have h1 := hc3 j _ hx 1 (by omega)
  rw [Nat.zero_add, Nat.add_zero] at h0
  rw [Nat.zero_add] at h1
  exact ⟨⟨_, h0⟩, ⟨_, _, _, h1⟩, hf0, hf1, hlt⟩
end Go.Proofs.YteckkcpnfeoehaaGreatDoor

/-
  Layer 4: Read, walked.
-/
namespace Go.Proofs.YteckkcpnfeoehaaGreatDoor
set_option maxRecDepth 100000
open Go.RowKit Go.ChangeShapes Go.WideShapes Go.Deep
set_option linter.unusedVariables false
set_option linter.unusedSimpArgs false

theorem u2_l (A : Option Addr) (n c : Nat) (L : List Int) (a : Nat) (x : Int) (hx : x = (a : Int)) (w : World) (h : RdB w w.heap.size A L) (hn : n = L.length) (hb : Bytes L) (ha : a + 2 ≤ n) (hN : n ≤ 140737488355328) :
    Calls Tryz.prog 97 #[.slice A n c, .int .i64 x, .int .i64 2] w fun e w' => e = .returned (.tuple #[.int .i64 (numAt (fnL L) a 2), .int .i64 0]) ∧ w' = w := by
  subst hn; subst hx
  have h0 := be_u A L.length c (fnL L) (a : Int) 2 w (rdb_rd h) (bytes_fn hb) (by unfold In64; omega) (by unfold In64; omega) hN
  have e : uAns (fnL L) L.length (a : Int) 2 = (numAt (fnL L) a 2, 0) := by
    unfold uAns
    rw [if_neg (by omega), if_pos (by unfold Fits; omega), Int.toNat_natCast]
    rfl
  rw [e] at h0
  exact h0
/-- What 'Read' leaves. -/
def RdP (R : Int × List Tb) (w : World) (e : Ending) (w' : World) : Prop := ∃ v, e = .returned (.tuple #[v, .int .i64 R.1]) ∧ OwnT w' w.heap.size v R.2 ∧ Since w w'
theorem rdP_no {R : Int × List Tb} {w w' : World} {x : Int} (h : R = (x, [])) (hS : Since w w') : RdP R w (.returned (.tuple #[.slice none 0 0, .int .i64 x])) w' := by
  subst h
  exact ⟨_, rfl, OwnT.nil _ _, hS⟩
theorem rdP_ok {R : Int × List Tb} {w w' : World} {v : Value} {D : List Tb} (h : R = (0, D)) (hO : OwnT w' w.heap.size v D) (hS : Since w w') : RdP R w (.returned (.tuple #[v, .int .i64 0])) w' := by
  subst h
  exact ⟨_, rfl, hO, hS⟩
theorem rd4_start (L : List Int) (k i : Nat) (last : ByteArray) : rd4Go L k i last = contR (rd4Go L k i last) [] := by
  unfold contR
  by_cases h : (rd4Go L k i last).1 = 0
  · rw [if_pos h, List.nil_append]; exact Prod.ext h rfl
  · rw [if_neg h]
    cases k with
    | zero => exact absurd rfl h
    | succ k =>
      unfold rd4Go at h ⊢
      by_cases h1 : (rd1 L (12 + 16 * i) last).1 = 0
      · rw [if_pos h1] at h ⊢
        by_cases h2 : (rd4Go L k (i + 1) (rd1 L (12 + 16 * i) last).2.tag).1 = 0
        · rw [if_pos h2] at h; exact absurd rfl h
        · rw [if_neg h2]
      · rw [if_neg h1]
set_option maxRecDepth 1000000 in
set_option maxHeartbeats 32000000 in
theorem sf_read4 (A : Option Addr) (n c : Nat) (L : List Int) (w : World) (h : RdB w w.heap.size A L) (hn : n = L.length) (hb : Bytes L) (hx : n ≤ 140737488355328) (hnc : n ≤ c) :
    Calls Tryz.prog 54 #[.slice A n c] w (RdP (rd4 L) w) := by
  have hnI : (n : Int) ≤ 140737488355328 := by omega
  obtain ⟨RR, ER⟩ : ∃ RR, RR = rd4 L := ⟨_, rfl⟩
  rw [← ER]
  unfold rd4 at ER
  rw [← hn] at ER
  have HN := Lib.hid hn
  have HB := Lib.hid hb
  clear hn hb
  by_cases h1 : 1048576 < n
  · rw [if_pos h1] at ER
    have E := Lib.hid ER
    have d1 : (1048576 : Int) < (n : Int) := by omega
    clear ER h
    go_enter Tryz.func54, Tryz.ntmps54
    go_wp2_with fail
    refine bodyPost_ret (by simp only [results, Tryz.results54]; go_simp) rfl (rdP_no E.out (by (repeat (first | with_reducible (exact Since.refl _) | with_reducible assumption | with_reducible (refine Since.drew ?_) | with_reducible (refine Since.drewN ?_ _) | with_reducible (refine Since.alloc ?_ _) | (with_reducible (refine Since.setCell ?_ ?_ _); rotate_left; focus (first | (simp; done) | (simp; omega) | omega)) | (with_reducible (refine Since.trans ?_ (by with_reducible assumption)))))))
  rw [if_neg h1] at ER
  have d1 : ¬ (1048576 : Int) < (n : Int) := by omega
  by_cases h2 : n < 12
  · rw [if_pos h2] at ER
    have E := Lib.hid ER
    have d2 : (n : Int) < 12 := by omega
    clear ER h
    go_enter Tryz.func54, Tryz.ntmps54
    go_wp2_with fail
    refine bodyPost_ret (by simp only [results, Tryz.results54]; go_simp) rfl (rdP_no E.out (by (repeat (first | with_reducible (exact Since.refl _) | with_reducible assumption | with_reducible (refine Since.drew ?_) | with_reducible (refine Since.drewN ?_ _) | with_reducible (refine Since.alloc ?_ _) | (with_reducible (refine Since.setCell ?_ ?_ _); rotate_left; focus (first | (simp; done) | (simp; omega) | omega)) | (with_reducible (refine Since.trans ?_ (by with_reducible assumption)))))))
  rw [if_neg h2] at ER
  have d2 : ¬ (n : Int) < 12 := by omega
  have HU0 := Lib.hid (u4_l A n c L 0 0 rfl w h HN.out HB.out (by omega) hx)
  have HU2 := Lib.hid (u2_l A n c L 4 4 rfl w h HN.out HB.out (by omega) hx)
  have hr := numAt_range (f := fnL L) (p := 4) (k := 2) (fun j hj => bytes_fn HB.out j (by have := HN.out; omega))
  simp only [Int.reducePow] at hr
  obtain ⟨V, hV⟩ : ∃ V, numAt (fnL L) 0 4 = V := ⟨_, rfl⟩
  obtain ⟨K, hK⟩ : ∃ K : Nat, numAt (fnL L) 4 2 = K := ⟨(numAt (fnL L) 4 2).toNat, by omega⟩
  rw [hV] at HU0 ER
  rw [hK] at HU2 ER hr
  rw [Int.toNat_natCast] at ER
  clear hV hK
  by_cases hv : V = 65536
  · subst hv
    by_cases hk1 : K < 1
    · rw [if_pos (.inr (.inl (by omega)))] at ER
      have E := Lib.hid ER
      have d3 : (K : Int) < 1 := by omega
      clear ER h hr hk1
      go_enter Tryz.func54, Tryz.ntmps54
      go_wp2_with (first | (go_at_call 97; (with_reducible refine HU0.out.mono ?_); rintro e w2 ⟨rfl, hw2⟩; have hw3 := hw2.symm; subst hw3; clear hw2) | (go_at_call 97; (with_reducible refine HU2.out.mono ?_); rintro e w2 ⟨rfl, hw2⟩; have hw3 := hw2.symm; subst hw3; clear hw2))
      refine bodyPost_ret (by simp only [results, Tryz.results54]; go_simp) rfl (rdP_no E.out (by (repeat (first | with_reducible (exact Since.refl _) | with_reducible assumption | with_reducible (refine Since.drew ?_) | with_reducible (refine Since.drewN ?_ _) | with_reducible (refine Since.alloc ?_ _) | (with_reducible (refine Since.setCell ?_ ?_ _); rotate_left; focus (first | (simp; done) | (simp; omega) | omega)) | (with_reducible (refine Since.trans ?_ (by with_reducible assumption)))))))
    have d3 : ¬ (K : Int) < 1 := by omega
    by_cases hk2 : 64 < K
    · rw [if_pos (.inr (.inr (by omega)))] at ER
      have E := Lib.hid ER
      have d4 : (64 : Int) < (K : Int) := by omega
      clear ER h hr hk1 hk2
      go_enter Tryz.func54, Tryz.ntmps54
      go_wp2_with (first | (go_at_call 97; (with_reducible refine HU0.out.mono ?_); rintro e w2 ⟨rfl, hw2⟩; have hw3 := hw2.symm; subst hw3; clear hw2) | (go_at_call 97; (with_reducible refine HU2.out.mono ?_); rintro e w2 ⟨rfl, hw2⟩; have hw3 := hw2.symm; subst hw3; clear hw2))
      refine bodyPost_ret (by simp only [results, Tryz.results54]; go_simp) rfl (rdP_no E.out (by (repeat (first | with_reducible (exact Since.refl _) | with_reducible assumption | with_reducible (refine Since.drew ?_) | with_reducible (refine Since.drewN ?_ _) | with_reducible (refine Since.alloc ?_ _) | (with_reducible (refine Since.setCell ?_ ?_ _); rotate_left; focus (first | (simp; done) | (simp; omega) | omega)) | (with_reducible (refine Since.trans ?_ (by with_reducible assumption)))))))
    have d4 : ¬ (64 : Int) < (K : Int) := by omega
    rw [if_neg (by omega)] at ER
    have m1 : IntKind.i64.wrap (16 * (K : Int)) = 16 * (K : Int) := by rw [IntKind.wrap_i64]; omega
    have m2 : IntKind.i64.wrap (12 + 16 * (K : Int)) = 12 + 16 * (K : Int) := by rw [IntKind.wrap_i64]; omega
    by_cases hl : n < 12 + 16 * K
    · rw [if_pos hl] at ER
      have E := Lib.hid ER
      have d5 : (n : Int) < 12 + 16 * (K : Int) := by omega
      clear ER h hr hk1 hk2 hl
      go_enter Tryz.func54, Tryz.ntmps54
      go_wp2_with (first | (go_at_call 97; (with_reducible refine HU0.out.mono ?_); rintro e w2 ⟨rfl, hw2⟩; have hw3 := hw2.symm; subst hw3; clear hw2) | (go_at_call 97; (with_reducible refine HU2.out.mono ?_); rintro e w2 ⟨rfl, hw2⟩; have hw3 := hw2.symm; subst hw3; clear hw2))
      refine bodyPost_ret (by simp only [results, Tryz.results54]; go_simp) rfl (rdP_no E.out (by (repeat (first | with_reducible (exact Since.refl _) | with_reducible assumption | with_reducible (refine Since.drew ?_) | with_reducible (refine Since.drewN ?_ _) | with_reducible (refine Since.alloc ?_ _) | (with_reducible (refine Since.setCell ?_ ?_ _); rotate_left; focus (first | (simp; done) | (simp; omega) | omega)) | (with_reducible (refine Since.trans ?_ (by with_reducible assumption)))))))
    rw [if_neg hl] at ER
    have d5 : ¬ (n : Int) < 12 + 16 * (K : Int) := by omega
    have E := Lib.hid ER
    have hK64 : K ≤ 64 := by omega
    have HRD := Lib.hid (fun (i : Nat) (last : ByteArray) (w2 : World) (h2 : Since w w2) (hi : i < K) => sf_read1 A n c L (12 + 16 * i) last w2 (h.on h2) HN.out HB.out (by omega) (by omega) hnc)
    clear ER h hr hk2 hl
    go_enter Tryz.func54, Tryz.ntmps54
    go_wp2_with (first | (go_at_call 97; (with_reducible refine HU0.out.mono ?_); rintro e w2 ⟨rfl, hw2⟩; have hw3 := hw2.symm; subst hw3; clear hw2) | (go_at_call 97; (with_reducible refine HU2.out.mono ?_); rintro e w2 ⟨rfl, hw2⟩; have hw3 := hw2.symm; subst hw3; clear hw2) | (at_make; refine wpList_make_g rfl _ _ 22 49 rfl (by omega) thL_len 40 ⟨ByteArray.empty, none, 0, 0⟩ Tryz.underlying22 infoTb2 K rfl rfl (by omega) (by simp only [maxLen]; omega) w.heap.size (Nat.le_refl _) ?_; intro w1 hO1 hg1))
    have hS1 : Since w w1 := since_grown (Since.refl w) hg1 (fun q hq => by cases hq)
    have hb1 := (hO1.lt (g := w.heap.size) rfl).2
    obtain ⟨hb0, hbe⟩ : ∃ hb0, hb0 = w.heap.size := ⟨_, rfl⟩
    have hbw : w.heap.size ≤ hb0 := by omega
    rw [← hbe] at hb1 ⊢
    have hO1 : OwnG 49 2 thL w1 w.heap.size (.slice (some ⟨hb0, 0, none⟩) K K) (List.replicate K ⟨ByteArray.empty, none, 0, 0⟩) := by rw [hbe]; exact hO1
    clear hbe hg1 HU0 HU2 m1 m2 d5 hk1
    go_loopw [9, 49] (fun z y wr => ∃ (j : Nat) (hs : List Th) (D : List Tb) (last : ByteArray), j ≤ K ∧ y = .int .i64 (j : Int) ∧ z = .string last ∧ D.length = j ∧ hs.length = K ∧ OwnG 49 2 thL wr w.heap.size (.slice (some ⟨hb0, 0, none⟩) K K) hs ∧ Since w wr ∧ Hid (∀ (i : Nat) x T, i < j → hs[i]? = some x → D[i]? = some T → x.tag = T.tag ∧ OwnB wr w.heap.size (.slice x.A x.n x.c) T.data) ∧ Hid (RR = contR (rd4Go L (K - j) j last) D)) (fun _ y _ => K - (intOf y).toNat)
    case atStart => exact ⟨0, _, [], ByteArray.empty, by omega, rfl, rfl, rfl, by simp, hO1, hS1, Lib.hid (fun i x T hi => absurd hi (by omega)), Lib.hid (by rw [E.out, Nat.sub_zero]; exact rd4_start L K 0 _)⟩
    case round =>
      obtain ⟨j, hs, D, last, hj, rfl, rfl, hD, hsl, hO, hS, HK, HR⟩ := hrel
      clear hO1 hS1 hb1
      by_cases hjn : j < K
      · have hjn' : (j : Int) < K := by omega
        have HRJ := Lib.hid (fun (w2 : World) (h2 : Since w w2) => HRD.out j last w2 h2 hjn)
        have HR1 := HR.out
        rw [show K - j = (K - (j + 1)) + 1 by omega] at HR1
        have ej : ((12 + 16 * j : Nat) : Int) = 12 + 16 * (j : Int) := by omega
        rw [ej] at HRJ
        unfold RdP4 at HRJ
        have m1 : IntKind.i64.wrap (16 * (j : Int)) = 16 * (j : Int) := by rw [IntKind.wrap_i64]; omega
        have m2 : IntKind.i64.wrap (12 + 16 * (j : Int)) = 12 + 16 * (j : Int) := by rw [IntKind.wrap_i64]; omega
        by_cases h0 : (rd1 L (12 + 16 * j) last).1 = 0
        · rw [rd4_next h0] at HR1
          rw [h0] at HRJ
          have HR2 := Lib.hid HR1
          obtain ⟨T, hT⟩ : ∃ T, T = (rd1 L (12 + 16 * j) last).2 := ⟨_, rfl⟩
          rw [← hT] at HRJ HR2
          clear HR1 h0 hT HR HRD ej
          obtain ⟨s, DL⟩ := T
          simp only at HRJ HR2
          have hjs : j < hs.length := by omega
          go_upto_region 19 with (go_at_call 98; (with_reducible refine (HRJ.out _ hS).mono ?_); rintro e w2 ⟨v2, rfl, hO2, hS2⟩; obtain ⟨A2, c2, rfl, hc2, _⟩ := hO2.rd (by omega) byL_len)
          have hO3 := hO.since hS2
          obtain ⟨⟨x1, q1⟩, ⟨y1, y2, y3, q2⟩, q3, q4, q5⟩ := own_thcell hO3 hjs
          have hb02 : ¬ hb0 = w2.heap.size := by omega
          have hb03 : ¬ w2.heap.size = hb0 := by omega
          go_region
          all_goals go_wp2_with fail
          all_goals go_roundw
          case measure => simp [intOf]; omega
          case rel =>
            have hne : 49 ≠ 5 := by decide
            have hkb : KeepBut hb0 w2 ((w2.setCell ⟨hb0, j * 2, none⟩ (.string s)).setCell ⟨hb0, j * 2 + 1, none⟩ (.slice A2 DL.length c2)) := ((KeepBut.refl hb0 w2).set _ _).set _ _
            refine ⟨j + 1, hs.set j ⟨s, A2, DL.length, c2⟩, D ++ [⟨s, DL⟩], s, by omega, by first | rfl | go_num | simp, rfl, by simp [hD], by rw [List.length_set]; exact hsl, OwnG.since (own_thset hO3 hjs ⟨s, A2, DL.length, c2⟩) (((Since.refl _).alloc _).drew), (((((hS.trans hS2).setCell hbw _).setCell hbw _).alloc _).drew), Lib.hid (fun i x T hi hx hT => ?_), HR2⟩
            by_cases hij : i = j
            · subst hij
              rw [List.getElem?_set_self hjs] at hx
              injection hx with hx
              subst hx
              rw [List.getElem?_append_right (by omega), hD, Nat.sub_self] at hT
              injection hT with hT
              subst hT
              exact ⟨rfl, OwnG.since (OwnG.but (hO2.low hS.below.size) hkb (fun e => own_apart hO3 hO2 hne rfl e)) (((Since.refl _).alloc _).drew)⟩
            · rw [List.getElem?_set_ne (fun h => hij h.symm)] at hx
              rw [List.getElem?_append_left (by omega)] at hT
              obtain ⟨e1, hk⟩ := HK.out i x T (by omega) hx hT
              have hk2 := hk.since hS2
              exact ⟨e1, OwnG.since (OwnG.but hk2 hkb (fun e => own_apart hO3 hk2 hne rfl e)) (((Since.refl _).alloc _).drew)⟩
        · rw [rd4_stop h0] at HR1
          have HR2 := Lib.hid HR1
          obtain ⟨x, hx1⟩ : ∃ x, x = (rd1 L (12 + 16 * j) last).1 := ⟨_, rfl⟩
          rw [← hx1] at HRJ HR2 h0
          clear HR1 hx1 HR HRD ej HK
          go_wp2_with (go_at_call 98; (with_reducible refine (HRJ.out _ hS).mono ?_); rintro e w2 ⟨v2, rfl, hO2, hS2⟩; obtain ⟨A2, c2, rfl, hc2, _⟩ := hO2.rd (by omega) byL_len)
          refine bodyPost_ret (by simp only [results, Tryz.results54]; go_simp) rfl (rdP_no HR2.out (by (repeat (first | with_reducible (exact Since.refl _) | with_reducible assumption | with_reducible (refine Since.drew ?_) | with_reducible (refine Since.drewN ?_ _) | with_reducible (refine Since.alloc ?_ _) | (with_reducible (refine Since.setCell ?_ ?_ _); rotate_left; focus (first | (simp; done) | (simp; omega) | omega)) | (with_reducible (refine Since.trans ?_ (by with_reducible assumption)))))))
      · obtain rfl : K = j := by omega
        have hjn' : ¬ (K : Int) < (K : Int) := by omega
        have EF := Lib.hid (show RR = (0, D) by rw [HR.out, Nat.sub_self]; unfold rd4Go contR; rw [if_pos rfl, List.append_nil])
        have HO := Lib.hid (show OwnT wr w.heap.size (.slice (some ⟨hb0, 0, none⟩) K K) D from ⟨hs, by rw [hsl, hD], hO, fun i x T h1 h2 => HK.out i x T (by
          rcases Nat.lt_or_ge i hs.length with h | h
          · omega
          · rw [List.getElem?_eq_none h] at h1; cases h1) h1 h2⟩)
        clear HK hO HR HRD hD hsl
        go_wp2_with fail
        refine bodyPost_ret (by simp only [results, Tryz.results54]; go_simp) rfl (rdP_ok EF.out HO.out hS)
  · rw [if_pos (.inl hv)] at ER
    have E := Lib.hid ER
    clear ER h hr
    go_enter Tryz.func54, Tryz.ntmps54
    go_wp2_with (first | (go_at_call 97; (with_reducible refine HU0.out.mono ?_); rintro e w2 ⟨rfl, hw2⟩; have hw3 := hw2.symm; subst hw3; clear hw2) | (go_at_call 97; (with_reducible refine HU2.out.mono ?_); rintro e w2 ⟨rfl, hw2⟩; have hw3 := hw2.symm; subst hw3; clear hw2))
    refine bodyPost_ret (by simp only [results, Tryz.results54]; go_simp) rfl (rdP_no E.out (by (repeat (first | with_reducible (exact Since.refl _) | with_reducible assumption | with_reducible (refine Since.drew ?_) | with_reducible (refine Since.drewN ?_ _) | with_reducible (refine Since.alloc ?_ _) | (with_reducible (refine Since.setCell ?_ ?_ _); rotate_left; focus (first | (simp; done) | (simp; omega) | omega)) | (with_reducible (refine Since.trans ?_ (by with_reducible assumption)))))))
end Go.Proofs.YteckkcpnfeoehaaGreatDoor

/-
  Layer 4: 'alive' holds.
-/
namespace Go.Proofs.YteckkcpnfeoehaaGreatDoor
set_option maxRecDepth 100000
open Go.RowKit Go.ChangeShapes Go.WideShapes Go.Deep
set_option linter.unusedVariables false
set_option linter.unusedSimpArgs false

end Go.Proofs.YteckkcpnfeoehaaGreatDoor

/-
  Layer 4: the law SfntWrites, walked.
-/
namespace Go.Proofs.YteckkcpnfeoehaaGreatDoor
set_option maxRecDepth 100000
open Go.RowKit Go.ChangeShapes Go.WideShapes Go.Deep
set_option linter.unusedVariables false
set_option linter.unusedSimpArgs false

end Go.Proofs.YteckkcpnfeoehaaGreatDoor

/-
  Layer 4: what is written is read back: pieces of a font's bytes.
-/
namespace Go.Proofs.YteckkcpnfeoehaaGreatDoor
set_option maxRecDepth 100000
open Go.RowKit Go.ChangeShapes Go.WideShapes Go.Deep
set_option linter.unusedVariables false
set_option linter.unusedSimpArgs false

theorem strOf_tag (s : ByteArray) : strOf (tagB s) = s := by
  unfold strOf tagB
  cases s with
  | mk d =>
    congr 1
    apply Array.ext'
    show List.map _ (List.map _ d.toList) = d.toList
    rw [List.map_map]
    conv => rhs; rw [← List.map_id d.toList]
    apply List.map_congr_left
    intro b _
    show UInt8.ofNat ((b.toNat : Int)).toNat = b
    rw [Int.toNat_natCast, UInt8.ofNat_toNat]
theorem cutL_app_left {A B : List Int} {p m : Nat} (h : p + m ≤ A.length) : cutL (A ++ B) p m = cutL A p m := by
  unfold cutL
  rw [List.drop_append_of_le_length (by omega), List.take_append_of_le_length (by rw [List.length_drop]; omega)]
theorem cutL_app_right (A B : List Int) (p m : Nat) : cutL (A ++ B) (A.length + p) m = cutL B p m := by
  unfold cutL
  rw [List.drop_append, List.drop_eq_nil_of_le (by omega), List.nil_append]
  congr 2
  omega
theorem cutL_all (A : List Int) : cutL A 0 A.length = A := by unfold cutL; rw [List.drop_zero, List.take_length]
theorem numAt_cut (L : List Int) (a : Nat) : ∀ (k : Nat), numAt (fnL L) a k = numAt (fnL (cutL L a k)) 0 k := by
  have key : ∀ (k m : Nat), k ≤ m → numAt (fnL L) a k = numAt (fnL (cutL L a m)) 0 k := by
    intro k
    induction k with
    | zero => intro m h; rfl
    | succ k ih =>
      intro m h
      unfold numAt
      rw [ih m (by omega), Nat.zero_add, cutL_get (by omega)]
  intro k
  exact key k k (Nat.le_refl _)
/-- An entry of the directory: the j-th sixteen bytes. -/
theorem ents4_cut : ∀ (TT : List Tb) (a j : Nat) (T : Tb), (∀ T, T ∈ TT → T.tag.size = 4) → TT[j]? = some T → cutL (ents4 a TT) (16 * j) 16 = ent4 T (end4 a (TT.take j)) := by
  intro TT
  induction TT with
  | nil => intro a j T _ h; simp at h
  | cons U r ih =>
    intro a j T hs h
    have hl : (ent4 U a).length = 16 := by
      unfold ent4
      simp only [List.length_append, tagB_len, putL_len]
      rw [hs U (by simp)]
    cases j with
    | zero =>
      simp only [List.getElem?_cons_zero, Option.some.injEq] at h
      subst h
      unfold ents4
      rw [Nat.mul_zero, cutL_app_left (by omega), ← hl, cutL_all]
      simp [end4]
    | succ j =>
      rw [List.getElem?_cons_succ] at h
      unfold ents4
      rw [show 16 * (j + 1) = (ent4 U a).length + 16 * j by omega, cutL_app_right, ih _ j T (fun V hV => hs V (by simp [hV])) h]
      congr 1
      unfold end4
      rw [List.take_succ_cons, List.map_cons, List.sum_cons, Nat.add_assoc]
/-- A table's data, where it lies. -/
theorem body4_cut : ∀ (TT : List Tb) (a j : Nat) (T : Tb), TT[j]? = some T → cutL (body4 TT) (end4 a (TT.take j) - a) T.data.length = blank4 T := by
  intro TT
  induction TT with
  | nil => intro a j T h; simp at h
  | cons U r ih =>
    intro a j T h
    have hl : (padL (blank4 U)).length = pad4 U.data.length := by rw [padL_len, blank4_len]
    have hb : body4 (U :: r) = padL (blank4 U) ++ body4 r := by unfold body4; rw [List.flatMap_cons]
    rw [hb]
    cases j with
    | zero =>
      simp only [List.getElem?_cons_zero, Option.some.injEq] at h
      subst h
      have hp := pad4_le U.data.length
      rw [List.take_zero, show end4 a [] - a = 0 by simp [end4], cutL_app_left (by rw [hl]; omega)]
      unfold padL
      rw [cutL_app_left (by rw [blank4_len]; omega), ← blank4_len U, cutL_all]
    | succ j =>
      rw [List.getElem?_cons_succ] at h
      have e : end4 a ((U :: r).take (j + 1)) - a = (padL (blank4 U)).length + (end4 a (r.take j) - a) := by
        rw [hl]; unfold end4; rw [List.take_succ_cons, List.map_cons, List.sum_cons]; omega
      rw [e, cutL_app_right]
      exact ih a j T h
end Go.Proofs.YteckkcpnfeoehaaGreatDoor

/-
  Layer 4: what is written is read back: an entry's numbers.
-/
namespace Go.Proofs.YteckkcpnfeoehaaGreatDoor
set_option maxRecDepth 100000
open Go.RowKit Go.ChangeShapes Go.WideShapes Go.Deep
set_option linter.unusedVariables false
set_option linter.unusedSimpArgs false

theorem num4_put (x : Int) : numAt (fnL (putL x 4)) 0 4 = x % 4294967296 := by
  have e : ∀ j, j < 4 → fnL (putL x 4) j = byteOf x 4 j := fun j hj => by
    unfold fnL putL
    rw [List.getD_eq_getElem?_getD, List.getElem?_map, List.getElem?_range hj]
    rfl
  simp only [numAt, Nat.zero_add, e 0 (by omega), e 1 (by omega), e 2 (by omega), e 3 (by omega), byteOf, Nat.reduceSub, Nat.reduceMul, Int.reducePow]
  omega
theorem num2_put (x : Int) : numAt (fnL (putL x 2)) 0 2 = x % 65536 := by
  have e : ∀ j, j < 2 → fnL (putL x 2) j = byteOf x 2 j := fun j hj => by
    unfold fnL putL
    rw [List.getD_eq_getElem?_getD, List.getElem?_map, List.getElem?_range hj]
    rfl
  simp only [numAt, Nat.zero_add, e 0 (by omega), e 1 (by omega), byteOf, Nat.reduceSub, Nat.reduceMul, Int.reducePow]
  omega
theorem cutL_cut (L : List Int) (p m q k : Nat) (h : q + k ≤ m) : cutL (cutL L p m) q k = cutL L (p + q) k := by
  unfold cutL
  rw [List.drop_take, List.drop_drop, List.take_take, Nat.min_eq_left (by omega)]
theorem cutL_lay_ahead (R M : List Int) (p a m : Nat) (h : a + m ≤ p) (hp : p ≤ R.length) : cutL (layL R p M) a m = cutL R a m := by
  unfold layL
  rw [cutL_app_left (by rw [List.length_take]; omega)]
  unfold cutL
  rw [List.drop_take, List.take_take, Nat.min_eq_left (by omega)]
theorem cutL_lay_behind (R M : List Int) (p a m : Nat) (h : p + M.length ≤ a) (hp : p + M.length ≤ R.length) : cutL (layL R p M) a m = cutL R a m := by
  unfold layL
  obtain ⟨d, rfl⟩ : ∃ d, a = p + (M.length + d) := ⟨a - p - M.length, by omega⟩
  have e : p + (M.length + d) = (R.take p).length + (M.length + d) := by rw [List.length_take]; omega
  rw [show cutL (R.take p ++ (M ++ R.drop (p + M.length))) (p + (M.length + d)) m = cutL (R.take p ++ (M ++ R.drop (p + M.length))) ((R.take p).length + (M.length + d)) m by rw [← e], cutL_app_right, cutL_app_right]
  unfold cutL
  rw [List.drop_drop, Nat.add_assoc]
/-- The four parts of an entry. -/
theorem ent4_parts (T : Tb) (a : Nat) (hs : T.tag.size = 4) : cutL (ent4 T a) 0 4 = tagB T.tag ∧ cutL (ent4 T a) 4 4 = putL (sumI (blank4 T)) 4 ∧ cutL (ent4 T a) 8 4 = putL a 4 ∧ cutL (ent4 T a) 12 4 = putL T.data.length 4 := by
  have hl : (tagB T.tag).length = 4 := by rw [tagB_len, hs]
  have h1 := putL_len (sumI (blank4 T)) 4
  have h2 := putL_len (a : Int) 4
  have h3 := putL_len (T.data.length : Int) 4
  unfold ent4
  generalize tagB T.tag = A at *
  generalize putL (sumI (blank4 T)) 4 = B at *
  generalize putL (a : Int) 4 = C at *
  generalize putL (T.data.length : Int) 4 = D at *
  refine ⟨?_, ?_, ?_, ?_⟩
  · rw [cutL_app_left (by omega), ← hl, cutL_all]
  · rw [show 4 = A.length + 0 by omega, cutL_app_right, cutL_app_left (by omega), show A.length + 0 = B.length by omega, cutL_all]
  · rw [show 8 = A.length + (B.length + 0) by omega, cutL_app_right, cutL_app_right, cutL_app_left (by omega), ← h2, cutL_all]
  · rw [show 12 = A.length + (B.length + (C.length + 0)) by omega, cutL_app_right, cutL_app_right, cutL_app_right, ← h3, cutL_all]
end Go.Proofs.YteckkcpnfeoehaaGreatDoor
