/-
  Texts of this seat, put together: each with its own head.
-/
import Derived.Test.YteckkcpnfeoehaaGreatDoorMnAi
import Derived.Laws.Cover1
import Derived.Test.YteckkcpnfeoehaaGreatDoorMnAa
import Derived.Lib.Strings
import Derived.Lib.Slices
import Derived.Lib.Small
import Derived.Lib.Walk
import Derived.Lib.BitFns
import Derived.Lib.ItoaNum

/-
  Layer 4: how long a font is, and which tables are right, walked.
-/
namespace Go.Proofs.YteckkcpnfeoehaaGreatDoor
set_option maxRecDepth 100000
open Go.RowKit Go.ChangeShapes Go.WideShapes Go.Deep
set_option linter.unusedVariables false
set_option linter.unusedSimpArgs false

/-- Tables that no walk need fear. -/
def FewT (TT : List Tb) : Prop := TT.length ≤ 100000 ∧ ∀ T, T ∈ TT → T.data.length ≤ 1000000 ∧ T.tag.size ≤ maxLen
theorem end4_few : ∀ (TT : List Tb) (a : Nat), (∀ T, T ∈ TT → T.data.length ≤ 1000000) → end4 a TT ≤ a + TT.length * 1000003 := by
  intro TT a h
  unfold end4
  induction TT with
  | nil => simp
  | cons T r ih =>
    have h1 := ih (fun U hU => h U (by simp [hU]))
    have h2 := h T (by simp)
    have h3 := pad4_le T.data.length
    rw [List.map_cons, List.sum_cons, List.length_cons, Nat.succ_mul]
    omega
set_option maxRecDepth 100000 in
set_option maxHeartbeats 8000000 in
theorem sf_size (A : Option Addr) (N c : Nat) (TT : List Tb) (w : World) (h : RdTL w w.heap.size A TT) (hN : N = TT.length) (hf : FewT TT) :
    Calls Tryz.prog 76 #[.slice A N c] w fun e w' => e = .returned (.int .i64 (size4 TT : Int)) ∧ Since w w' := by
  obtain ⟨hf1, hf2⟩ := hf
  have HN := Lib.hid hN
  have HF := Lib.hid hf2
  have hNn : N ≤ 100000 := by omega
  have hNI : (N : Int) ≤ 100000 := by omega
  have HE := Lib.hid (fun j => end4_few (TT.take j) (12 + 16 * N) (fun T hT => (hf2 T (List.mem_of_mem_take hT)).1))
  clear hN hf1 hf2
  have m1 : IntKind.i64.wrap (16 * (N : Int)) = 16 * (N : Int) := by rw [IntKind.wrap_i64]; omega
  have m2 : IntKind.i64.wrap (12 + 16 * (N : Int)) = 12 + 16 * (N : Int) := by rw [IntKind.wrap_i64]; omega
  go_enter Tryz.func76, Tryz.ntmps76
  go_wp2_with fail
  go_loopw [3, 12] (fun v y wr => ∃ (j : Nat), j ≤ N ∧ y = .int .i64 (j : Int) ∧ v = .int .i64 (end4 (12 + 16 * N) (TT.take j) : Int) ∧ Since w wr) (fun _ y _ => N - (intOf y).toNat)
  case atStart => exact ⟨0, by omega, rfl, by simp [end4], Since.refl _⟩
  case round =>
    obtain ⟨j, hj, rfl, rfl, hS⟩ := hrel
    have hE := HE.out j
    have hlj : (TT.take j).length ≤ j := List.length_take_le _ _
    have hE2 : (end4 (12 + 16 * N) (TT.take j) : Int) ≤ 200000000000 := by
      have : (TT.take j).length * 1000003 ≤ 100000 * 1000003 := Nat.mul_le_mul_right _ (by omega)
      omega
    clear m1 m2 hE
    by_cases hjn : j < N
    · have hjn' : (j : Int) < N := by omega
      have hjL : j < TT.length := by rw [← HN.out]; exact hjn
      have hT : TT[j]? = some TT[j] := List.getElem?_eq_getElem hjL
      obtain ⟨hml, _⟩ := HF.out _ (List.mem_of_getElem? hT)
      have HTK := Lib.hid (show end4 (12 + 16 * N) (TT.take (j + 1)) = end4 (12 + 16 * N) (TT.take j) + pad4 TT[j].data.length by rw [List.take_succ_eq_append_getElem hjL, end4_snoc])
      obtain ⟨b, o, A', c', rfl, hb, hc1, hc2, _⟩ := h.row hT
      generalize TT[j] = T at *
      obtain ⟨s, L⟩ := T
      simp only at hml hc1 hc2 HTK
      have c1 := (hS.1 _ _ hb).trans hc1
      have c2 := (hS.1 _ _ hb).trans hc2
      have hbw := hS.2.2.1 _ hb
      obtain ⟨n, hn0⟩ : ∃ n, n = L.length := ⟨_, rfl⟩
      rw [← hn0] at c2 hml HTK
      have HP := Lib.hid (fun w2 => sf_padded n w2 (by omega))
      have hp := pad4_le n
      generalize pad4 n = p at *
      have hpI : (p : Int) ≤ 1000003 := by omega
      generalize end4 (12 + 16 * N) (TT.take j) = x at *
      clear hT h hc1 hc2 hjL hn0 hp
      go_wp2_with (go_at_call 68; (with_reducible refine (HP.out _).mono ?_); rintro e w3 ⟨rfl, hw3⟩; have hw4 := hw3.symm; subst hw4; clear hw3)
      go_roundw
      case rel => first | exact ⟨j + 1, by omega, by first | rfl | go_num | simp, by rw [HTK.out]; first | rfl | go_num | simp, by (repeat (first | with_reducible (exact Since.refl _) | with_reducible assumption | with_reducible (refine Since.drew ?_) | with_reducible (refine Since.drewN ?_ _) | with_reducible (refine Since.alloc ?_ _) | (with_reducible (refine Since.setCell ?_ ?_ _); rotate_left; focus (first | (simp; done) | (simp; omega) | omega)) | (with_reducible (refine Since.trans ?_ (by with_reducible assumption)))))⟩ | ((repeat apply Exists.intro); refine ⟨?_, rfl⟩; exact ⟨j + 1, by omega, by first | rfl | go_num | simp, by rw [HTK.out]; first | rfl | go_num | simp, by (repeat (first | with_reducible (exact Since.refl _) | with_reducible assumption | with_reducible (refine Since.drew ?_) | with_reducible (refine Since.drewN ?_ _) | with_reducible (refine Since.alloc ?_ _) | (with_reducible (refine Since.setCell ?_ ?_ _); rotate_left; focus (first | (simp; done) | (simp; omega) | omega)) | (with_reducible (refine Since.trans ?_ (by with_reducible assumption)))))⟩)
      case measure => simp [intOf]; omega
    · obtain rfl : N = j := by omega
      have hjn' : ¬ (N : Int) < (N : Int) := by omega
      have e : TT.take N = TT := by rw [HN.out]; exact List.take_length
      have E := Lib.hid (show end4 (12 + 16 * N) (TT.take N) = size4 TT by rw [e, HN.out]; rfl)
      generalize end4 (12 + 16 * N) (TT.take N) = x at *
      clear e h
      go_wp2_with fail
      go_ret
      rw [← E.out]
      exact ⟨rfl, hS⟩
noncomputable def RightG (TT : List Tb) : Bool := @decide (right4 TT) (Classical.propDecidable _)
theorem rightG_iff {TT : List Tb} : RightG TT = true ↔ right4 TT := by unfold RightG; exact @decide_eq_true_iff _ (Classical.propDecidable _)
theorem rightG_no {TT : List Tb} (h : ¬ right4 TT) : RightG TT = false := by
  cases e : RightG TT
  · rfl
  · exact absurd (rightG_iff.1 e) h
theorem rightG_yes {TT : List Tb} (h : right4 TT) : RightG TT = true := rightG_iff.2 h
/-- The tables ahead of j are right one by one. -/
def UpTo (TT : List Tb) (j : Nat) : Prop := ∀ (i : Nat) T, i < j → TT[i]? = some T → TagC T.tag ∧ ∀ U, 0 < i → TT[i - 1]? = some U → Op.bytesLess U.tag.toList T.tag.toList = true
theorem upTo_all {TT : List Tb} (h : UpTo TT TT.length) (h1 : 1 ≤ TT.length) (h2 : TT.length ≤ 64) (h3 : size4 TT ≤ 1048576) : right4 TT := by
  have hlt : ∀ (j : Nat) T, TT[j]? = some T → j < TT.length := fun j T hj => by
    rcases Nat.lt_or_ge j TT.length with h | h
    · exact h
    · rw [List.getElem?_eq_none h] at hj; cases hj
  exact ⟨h1, h2, h3, fun j T hj => (h j T (hlt j T hj) hj).1, fun j T U hj hU => (h (j + 1) U (hlt _ _ hU) hU).2 T (by omega) (by rw [Nat.add_sub_cancel]; exact hj)⟩
theorem upTo_next {TT : List Tb} {j : Nat} {T : Tb} (h : UpTo TT j) (hj : TT[j]? = some T) (hT : TagG T.tag = true) (hl : ∀ U, 0 < j → TT[j - 1]? = some U → Op.bytesLess U.tag.toList T.tag.toList = true) : UpTo TT (j + 1) := fun i U hi hU => by
  by_cases e : i = j
  · subst e
    rw [hj] at hU
    injection hU with hU
    subst hU
    exact ⟨of_decide_eq_true hT, hl⟩
  · exact h i U (by omega) hU
theorem right_tag {TT : List Tb} {j : Nat} {T : Tb} (hj : TT[j]? = some T) (hT : TagG T.tag = false) : RightG TT = false := rightG_no fun h => by
  have := h.2.2.2.1 j T hj
  unfold TagG at hT
  rw [decide_eq_true this] at hT; cases hT
theorem right_less {TT : List Tb} {j : Nat} {T U : Tb} (hj : TT[j]? = some T) (h0 : 0 < j) (hU : TT[j - 1]? = some U) (hl : Op.bytesLess U.tag.toList T.tag.toList = false) : RightG TT = false := rightG_no fun h => by
  have := h.2.2.2.2 (j - 1) U T hU (by rw [Nat.sub_add_cancel h0]; exact hj)
  rw [hl] at this; cases this
set_option maxRecDepth 100000 in
set_option maxHeartbeats 8000000 in
theorem sf_right (A : Option Addr) (N c : Nat) (TT : List Tb) (w : World) (h : RdTL w w.heap.size A TT) (hN : N = TT.length) (hf : FewT TT) :
    Calls Tryz.prog 38 #[.slice A N c] w fun e w' => e = .returned (.bool (RightG TT)) ∧ Since w w' := by
  have HSZ := Lib.hid (fun (w2 : World) (h2 : Since w w2) => sf_size A N c TT w2 (h.on h2) hN hf)
  obtain ⟨hf1, hf2⟩ := hf
  have HN := Lib.hid hN
  have HF := Lib.hid hf2
  have hNn : N ≤ 100000 := by omega
  have hNI : (N : Int) ≤ 100000 := by omega
  clear hN hf1 hf2
  by_cases h1 : N < 1
  · have E := Lib.hid (rightG_no (TT := TT) fun e => by have := e.1; have := HN.out; omega)
    have d1 : (N : Int) < 1 := by omega
    go_enter Tryz.func38, Tryz.ntmps38
    go_wp2_with fail
    go_ret
    rw [E.out]
    exact ⟨by first | rfl | simp, Since.refl _⟩
  have d1 : ¬ (N : Int) < 1 := by omega
  by_cases h2 : 64 < N
  · have E := Lib.hid (rightG_no (TT := TT) fun e => by have := e.2.1; have := HN.out; omega)
    have d2 : (64 : Int) < (N : Int) := by omega
    go_enter Tryz.func38, Tryz.ntmps38
    go_wp2_with fail
    go_ret
    rw [E.out]
    exact ⟨by first | rfl | simp, Since.refl _⟩
  have d2 : ¬ (64 : Int) < (N : Int) := by omega
  by_cases h3 : 1048576 < size4 TT
  · have E := Lib.hid (rightG_no (TT := TT) fun e => by have := e.2.2.1; omega)
    have d3 : (1048576 : Int) < (size4 TT : Int) := by omega
    generalize size4 TT = z at *
    go_enter Tryz.func38, Tryz.ntmps38
    go_wp2_with (go_at_call 76; (with_reducible refine (HSZ.out _ (Since.refl _)).mono ?_); rintro e w2 ⟨rfl, hS2⟩)
    go_ret
    rw [E.out]
    exact ⟨by first | rfl | simp, hS2⟩
  have d3 : ¬ (1048576 : Int) < (size4 TT : Int) := by omega
  have HOK := Lib.hid (fun (hu : UpTo TT TT.length) => rightG_yes (upTo_all hu (by have := HN.out; omega) (by have := HN.out; omega) (by omega)))
  generalize size4 TT = z at *
  clear h1 h2 h3
  go_enter Tryz.func38, Tryz.ntmps38
  go_wp2_with (go_at_call 76; (with_reducible refine (HSZ.out _ (Since.refl _)).mono ?_); rintro e w2 ⟨rfl, hS2⟩)
  go_loopw [20] (fun y wr => ∃ (j : Nat), j ≤ N ∧ y = .int .i64 (j : Int) ∧ Hid (UpTo TT j) ∧ Since w wr) (fun y _ => N - (intOf y).toNat)
  case atStart => exact ⟨0, by omega, rfl, Lib.hid (fun i T hi => absurd hi (by omega)), hS2⟩
  case round =>
    obtain ⟨j, hj, rfl, HU, hS⟩ := hrel
    clear hS2
    by_cases hjn : j < N
    · have hjn' : (j : Int) < N := by omega
      have hjL : j < TT.length := by rw [← HN.out]; exact hjn
      have hT : TT[j]? = some TT[j] := List.getElem?_eq_getElem hjL
      obtain ⟨_, hts⟩ := HF.out _ (List.mem_of_getElem? hT)
      obtain ⟨b, o, A', c', rfl, hb, hc1, hc2, _⟩ := h.row hT
      have HPR := Lib.hid (fun w2 => sf_printable TT[j].tag w2 hts)
      have HTG := Lib.hid (fun e => right_tag hT e)
      have HLS := Lib.hid (fun U h0 hU e => right_less (U := U) hT h0 hU e)
      have HNX := Lib.hid (fun e hl => upTo_next HU.out hT e hl)
      generalize TT[j] = T at *
      obtain ⟨s, L⟩ := T
      simp only at hc1 hc2 HPR HTG HLS HNX
      have c1 := (hS.1 _ _ hb).trans hc1
      have c2 := (hS.1 _ _ hb).trans hc2
      have hbw := hS.2.2.1 _ hb
      clear hc1 hc2
      obtain ⟨g, hg⟩ : ∃ g, TagG s = g := ⟨_, rfl⟩
      rw [hg] at HPR HTG HNX
      clear hg hts
      go_upto_region 6 with fail
      refine wp_named fun w3 hw3 => ?_
      have hS3 : Since wr w3 := by subst hw3; (repeat (first | with_reducible (exact Since.refl _) | with_reducible assumption | with_reducible (refine Since.drew ?_) | with_reducible (refine Since.drewN ?_ _) | with_reducible (refine Since.alloc ?_ _) | (with_reducible (refine Since.setCell ?_ ?_ _); rotate_left; focus (first | (simp; done) | (simp; omega) | omega)) | (with_reducible (refine Since.trans ?_ (by with_reducible assumption)))))
      have hw3a : w3 = wr.alloc (.cells #[.string s, .slice A' L.length c'] 49) := hw3
      obtain ⟨k1, k2, k3⟩ := two_tb (w' := w3) (by rw [hw3a]; exact Since.refl _)
      obtain ⟨gx, hgx⟩ : ∃ gx, gx = wr.heap.size := ⟨_, rfl⟩
      rw [← hgx] at k1 k2 k3 ⊢
      have hSw := hS.trans hS3
      clear hw3 hw3a hgx
      cases g
      · have E := Lib.hid (HTG.out rfl)
        clear HTG HLS HNX
        go_quiet ((go_at_call 77; exact Calls.quiet_of_same (HPR.out _)))
        go_wp2_with fail
        go_ret
        rw [E.out]
        exact ⟨by first | rfl | simp, by (repeat (first | with_reducible (exact Since.refl _) | with_reducible assumption | with_reducible (refine Since.drew ?_) | with_reducible (refine Since.drewN ?_ _) | with_reducible (refine Since.alloc ?_ _) | (with_reducible (refine Since.setCell ?_ ?_ _); rotate_left; focus (first | (simp; done) | (simp; omega) | omega)) | (with_reducible (refine Since.trans ?_ (by with_reducible assumption)))))⟩
      · by_cases hj0 : j = 0
        · subst hj0
          have HN2 := Lib.hid (HNX.out rfl (fun U h0 => absurd h0 (by omega)))
          have dz : decide ((0 : Int) < ((0 : Nat) : Int)) = false := by simp
          clear HTG HLS HNX
          go_quiet ((go_at_call 77; exact Calls.quiet_of_same (HPR.out _)))
          go_wp2_with fail
          go_roundw
          case rel => first | exact ⟨1, by omega, by first | rfl | go_num | simp, HN2, by (repeat (first | with_reducible (exact Since.refl _) | with_reducible assumption | with_reducible (refine Since.drew ?_) | with_reducible (refine Since.drewN ?_ _) | with_reducible (refine Since.alloc ?_ _) | (with_reducible (refine Since.setCell ?_ ?_ _); rotate_left; focus (first | (simp; done) | (simp; omega) | omega)) | (with_reducible (refine Since.trans ?_ (by with_reducible assumption)))))⟩ | ((repeat apply Exists.intro); refine ⟨?_, rfl⟩; exact ⟨1, by omega, by first | rfl | go_num | simp, HN2, by (repeat (first | with_reducible (exact Since.refl _) | with_reducible assumption | with_reducible (refine Since.drew ?_) | with_reducible (refine Since.drewN ?_ _) | with_reducible (refine Since.alloc ?_ _) | (with_reducible (refine Since.setCell ?_ ?_ _); rotate_left; focus (first | (simp; done) | (simp; omega) | omega)) | (with_reducible (refine Since.trans ?_ (by with_reducible assumption)))))⟩)
          case measure => simp [intOf]; omega
        · have hjp : 0 < j := by omega
          have dz : (0 : Int) < (j : Int) := by omega
          have dz2 : decide ((0 : Int) < (j : Int)) = true := by simpa using dz
          have dz4 : decide (0 < j) = true := by simpa using hjp
          have hj1L : j - 1 < TT.length := by omega
          have hT1 : TT[j - 1]? = some TT[j - 1] := List.getElem?_eq_getElem hj1L
          obtain ⟨b1, o1, A1, c3, e1, hb1, hc3, hc4, hrd9⟩ := h.row hT1
          injection e1 with e1
          injection e1 with e1 e2
          subst e1 e2
          have q1 := (hSw.1 _ _ hb1).trans hc3
          have m1 : IntKind.i64.wrap ((j : Int) - 1) = ((j - 1 : Nat) : Int) := by rw [IntKind.wrap_i64]; omega
          have hn1 : j - 1 < N := by omega
          have HLS2 := Lib.hid (fun e => HLS.out _ hjp hT1 e)
          have HNX2 := Lib.hid (show Op.bytesLess TT[j - 1].tag.toList s.toList = true → UpTo TT (j + 1) from fun e => HNX.out rfl (fun U h0 hU => by
            rw [hT1] at hU
            injection hU with hU
            subst hU
            exact e))
          generalize TT[j - 1].tag = p at *
          obtain ⟨z2, hz2⟩ : ∃ z2, Op.bytesLess p.toList s.toList = z2 := ⟨_, rfl⟩
          rw [hz2] at HLS2 HNX2
          clear HTG HLS HNX hc3 hc4 hrd9 hT1 hj1L
          cases z2
          · have E := Lib.hid (HLS2.out rfl)
            clear HLS2 HNX2
            go_quiet ((go_at_call 77; exact Calls.quiet_of_same (HPR.out _)))
            go_wp2_with fail
            go_ret
            rw [E.out]
            exact ⟨by first | rfl | simp, by (repeat (first | with_reducible (exact Since.refl _) | with_reducible assumption | with_reducible (refine Since.drew ?_) | with_reducible (refine Since.drewN ?_ _) | with_reducible (refine Since.alloc ?_ _) | (with_reducible (refine Since.setCell ?_ ?_ _); rotate_left; focus (first | (simp; done) | (simp; omega) | omega)) | (with_reducible (refine Since.trans ?_ (by with_reducible assumption)))))⟩
          · have HN2 := Lib.hid (HNX2.out rfl)
            clear HLS2 HNX2
            go_quiet ((go_at_call 77; exact Calls.quiet_of_same (HPR.out _)))
            go_wp2_with fail
            go_roundw
            case rel => first | exact ⟨j + 1, by omega, by first | rfl | go_num | simp, HN2, by (repeat (first | with_reducible (exact Since.refl _) | with_reducible assumption | with_reducible (refine Since.drew ?_) | with_reducible (refine Since.drewN ?_ _) | with_reducible (refine Since.alloc ?_ _) | (with_reducible (refine Since.setCell ?_ ?_ _); rotate_left; focus (first | (simp; done) | (simp; omega) | omega)) | (with_reducible (refine Since.trans ?_ (by with_reducible assumption)))))⟩ | ((repeat apply Exists.intro); refine ⟨?_, rfl⟩; exact ⟨j + 1, by omega, by first | rfl | go_num | simp, HN2, by (repeat (first | with_reducible (exact Since.refl _) | with_reducible assumption | with_reducible (refine Since.drew ?_) | with_reducible (refine Since.drewN ?_ _) | with_reducible (refine Since.alloc ?_ _) | (with_reducible (refine Since.setCell ?_ ?_ _); rotate_left; focus (first | (simp; done) | (simp; omega) | omega)) | (with_reducible (refine Since.trans ?_ (by with_reducible assumption)))))⟩)
            case measure => simp [intOf]; omega
    · obtain rfl : N = j := by omega
      have hjn' : ¬ (N : Int) < (N : Int) := by omega
      have E := Lib.hid (HOK.out (by rw [← HN.out]; exact HU.out))
      clear h
      go_wp2_with fail
      go_ret
      rw [E.out]
      exact ⟨by first | rfl | simp, hS⟩
end Go.Proofs.YteckkcpnfeoehaaGreatDoor

/-
  Layer 4: the reference's Right, walked; its put.
-/
namespace Go.Proofs.YteckkcpnfeoehaaGreatDoor
set_option maxRecDepth 100000
open Go.RowKit Go.ChangeShapes Go.WideShapes Go.Deep
set_option linter.unusedVariables false
set_option linter.unusedSimpArgs false

theorem right_size {TT : List Tb} {j : Nat} {a : Nat} (ha : a = 12 + 16 * TT.length) (h : 1048576 < end4 a (TT.take j)) : RightG TT = false := rightG_no fun e => by
  subst ha
  have h1 := e.2.2.1
  have h2 := end4_take_le TT (12 + 16 * TT.length) j
  unfold size4 at h1
  omega
set_option maxRecDepth 100000 in
set_option maxHeartbeats 8000000 in
theorem rf_right4 (A : Option Addr) (N c : Nat) (TT : List Tb) (w : World) (h : RdTL w w.heap.size A TT) (hN : N = TT.length) (hf : FewT TT) :
    Calls Tryz.prog 33 #[.slice A N c] w fun e w' => e = .returned (.bool (RightG TT)) ∧ Since w w' := by
  obtain ⟨hf1, hf2⟩ := hf
  have HN := Lib.hid hN
  have HF := Lib.hid hf2
  have hNn : N ≤ 100000 := by omega
  have hNI : (N : Int) ≤ 100000 := by omega
  clear hN hf1 hf2
  by_cases h1 : N < 1
  · have E := Lib.hid (rightG_no (TT := TT) fun e => by have := e.1; have := HN.out; omega)
    have d1 : (N : Int) < 1 := by omega
    go_enter Tryz.func33, Tryz.ntmps33
    go_wp2_with fail
    go_ret
    rw [E.out]
    exact ⟨by first | rfl | simp, Since.refl _⟩
  have d1 : ¬ (N : Int) < 1 := by omega
  by_cases h2 : 64 < N
  · have E := Lib.hid (rightG_no (TT := TT) fun e => by have := e.2.1; have := HN.out; omega)
    have d2 : (64 : Int) < (N : Int) := by omega
    go_enter Tryz.func33, Tryz.ntmps33
    go_wp2_with fail
    go_ret
    rw [E.out]
    exact ⟨by first | rfl | simp, Since.refl _⟩
  have d2 : ¬ (64 : Int) < (N : Int) := by omega
  have HOK := Lib.hid (fun (hu : UpTo TT TT.length) (hs : end4 (12 + 16 * N) (TT.take N) ≤ 1048576) => rightG_yes (upTo_all hu (by have := HN.out; omega) (by have := HN.out; omega) (by
    rw [HN.out, List.take_length] at hs; exact hs)))
  have HRS := Lib.hid (fun (j : Nat) (e : 1048576 < end4 (12 + 16 * N) (TT.take j)) => right_size (TT := TT) (by rw [HN.out]) e)
  have hN64 : N ≤ 64 := by omega
  have hN64I : (N : Int) ≤ 64 := by omega
  have hN1 : 1 ≤ N := by omega
  have m8 : IntKind.i64.wrap (16 * (N : Int)) = 16 * (N : Int) := by rw [IntKind.wrap_i64]; omega
  have m9 : IntKind.i64.wrap (12 + 16 * (N : Int)) = 12 + 16 * (N : Int) := by rw [IntKind.wrap_i64]; omega
  clear h1 h2
  go_enter Tryz.func33, Tryz.ntmps33
  go_wp2_with fail
  go_loopw [3, 20] (fun v y wr => ∃ (j x : Nat), j ≤ N ∧ y = .int .i64 (j : Int) ∧ v = .int .i64 (x : Int) ∧ x ≤ 1048576 ∧ Hid (x = end4 (12 + 16 * N) (TT.take j) ∧ UpTo TT j) ∧ Since w wr) (fun _ y _ => N - (intOf y).toNat)
  case atStart => exact ⟨0, 12 + 16 * N, by omega, rfl, by first | rfl | go_num | simp, by omega, Lib.hid ⟨by simp [end4], fun i T hi => absurd hi (by omega)⟩, Since.refl _⟩
  case round =>
    obtain ⟨j, x, hj, rfl, rfl, hx, HU, hS⟩ := hrel
    have hxI : (x : Int) ≤ 1048576 := by omega
    clear m8 m9
    by_cases hjn : j < N
    · have hjn' : (j : Int) < N := by omega
      have hjL : j < TT.length := by rw [← HN.out]; exact hjn
      have hT : TT[j]? = some TT[j] := List.getElem?_eq_getElem hjL
      obtain ⟨hml, hts⟩ := HF.out _ (List.mem_of_getElem? hT)
      obtain ⟨b, o, A', c', rfl, hb, hc1, hc2, hrd8⟩ := h.row hT
      have HPR := Lib.hid (fun w2 => rf_tagged TT[j].tag w2 hts)
      have HTG := Lib.hid (fun e => right_tag hT e)
      have HLS := Lib.hid (fun U h0 hU e => right_less (U := U) hT h0 hU e)
      have HNX := Lib.hid (fun e hl => upTo_next HU.out.2 hT e hl)
      have HTK := Lib.hid (show x + pad4 TT[j].data.length = end4 (12 + 16 * N) (TT.take (j + 1)) by rw [List.take_succ_eq_append_getElem hjL, end4_snoc, ← HU.out.1])
      generalize TT[j] = T at *
      obtain ⟨s, L⟩ := T
      simp only at hc1 hc2 HPR HTG HLS HNX HTK hml
      obtain ⟨n, hn0⟩ : ∃ n, n = L.length := ⟨_, rfl⟩
      rw [← hn0] at hc2 HTK hml
      have c1 := (hS.1 _ _ hb).trans hc1
      have c2 := (hS.1 _ _ hb).trans hc2
      have hbw := hS.2.2.1 _ hb
      clear hc1 hc2 hn0 hrd8
      obtain ⟨g, hg⟩ : ∃ g, TagG s = g := ⟨_, rfl⟩
      rw [hg] at HPR HTG HNX
      clear hg hts
      have hnI : (n : Int) ≤ 1000000 := by omega
      have u1 : IntKind.i64.wrap ((n : Int) + 3) = (n : Int) + 3 := by rw [IntKind.wrap_i64]; omega
      have u2 : ((n : Int) + 3).tdiv 4 = (((n + 3) / 4 : Nat) : Int) := by rw [Int.tdiv_eq_ediv_of_nonneg (by omega)]; omega
      have u3 : IntKind.i64.wrap (((n + 3) / 4 : Nat) : Int) = (((n + 3) / 4 : Nat) : Int) := by rw [IntKind.wrap_i64]; omega
      have u4 : IntKind.i64.wrap ((((n + 3) / 4 : Nat) : Int) * 4) = (pad4 n : Int) := by rw [IntKind.wrap_i64]; unfold pad4; omega
      have u5 : (((n + 3) / 4 : Nat) : Int) * 4 = (pad4 n : Int) := by unfold pad4; omega
      have hp := pad4_le n
      have d9 : decide ((1048576 : Int) < (n : Int)) = false := by simp; omega
      have HPD := Lib.hid hp
      generalize pad4 n = p at *
      have hpI : (p : Int) ≤ 1000003 := by omega
      have u6 : IntKind.i64.wrap ((x : Int) + (p : Int)) = (x : Int) + (p : Int) := by rw [IntKind.wrap_i64]; omega
      clear hp
      go_upto_region 7 with fail
      refine wp_named fun w3 hw3 => ?_
      have hS3 : Since wr w3 := by subst hw3; (repeat (first | with_reducible (exact Since.refl _) | with_reducible assumption | with_reducible (refine Since.drew ?_) | with_reducible (refine Since.drewN ?_ _) | with_reducible (refine Since.alloc ?_ _) | (with_reducible (refine Since.setCell ?_ ?_ _); rotate_left; focus (first | (simp; done) | (simp; omega) | omega)) | (with_reducible (refine Since.trans ?_ (by with_reducible assumption)))))
      have hw3a : w3 = wr.alloc (.cells #[.string s, .slice A' n c'] 49) := hw3
      obtain ⟨k1, k2, k3⟩ := two_tb (w' := w3) (by rw [hw3a]; exact Since.refl _)
      obtain ⟨gx, hgx⟩ : ∃ gx, gx = wr.heap.size := ⟨_, rfl⟩
      rw [← hgx] at k1 k2 k3 ⊢
      have hSw := hS.trans hS3
      clear hw3 hw3a hgx
      cases g
      · have E := Lib.hid (HTG.out rfl)
        clear HTG HLS HNX
        go_quiet ((go_at_call 74; exact Calls.quiet_of_same (HPR.out _)))
        go_wp2_with fail
        go_ret
        rw [E.out]
        exact ⟨by first | rfl | simp, by (repeat (first | with_reducible (exact Since.refl _) | with_reducible assumption | with_reducible (refine Since.drew ?_) | with_reducible (refine Since.drewN ?_ _) | with_reducible (refine Since.alloc ?_ _) | (with_reducible (refine Since.setCell ?_ ?_ _); rotate_left; focus (first | (simp; done) | (simp; omega) | omega)) | (with_reducible (refine Since.trans ?_ (by with_reducible assumption)))))⟩
      · have hord : RightG TT = false ∨ UpTo TT (j + 1) := by
          by_cases hj0 : j = 0
          · exact .inr (HNX.out rfl (fun U h0 => absurd h0 (by omega)))
          · have hj1L : j - 1 < TT.length := by omega
            have hT1 : TT[j - 1]? = some TT[j - 1] := List.getElem?_eq_getElem hj1L
            cases hz : Op.bytesLess TT[j - 1].tag.toList s.toList
            · exact .inl (HLS.out _ (by omega) hT1 hz)
            · exact .inr (HNX.out rfl (fun U h0 hU => by
                rw [hT1] at hU
                injection hU with hU
                subst hU
                exact hz))
        by_cases hj0 : j = 0
        · subst hj0
          have HN2 := Lib.hid (HNX.out rfl (fun U h0 => absurd h0 (by omega)))
          have dz : decide ((0 : Int) < ((0 : Nat) : Int)) = false := by simp
          clear HTG HLS HNX hord
          by_cases hbig : 1048576 < x + p
          · have E := Lib.hid (HRS.out 1 (by rw [← HTK.out]; exact hbig))
            have d5 : decide ((1048576 : Int) < (x : Int) + (p : Int)) = true := by simp; omega
            go_quiet ((go_at_call 74; exact Calls.quiet_of_same (HPR.out _)))
            go_wp2_with fail
            go_ret
            rw [E.out]
            exact ⟨by first | rfl | simp, by (repeat (first | with_reducible (exact Since.refl _) | with_reducible assumption | with_reducible (refine Since.drew ?_) | with_reducible (refine Since.drewN ?_ _) | with_reducible (refine Since.alloc ?_ _) | (with_reducible (refine Since.setCell ?_ ?_ _); rotate_left; focus (first | (simp; done) | (simp; omega) | omega)) | (with_reducible (refine Since.trans ?_ (by with_reducible assumption)))))⟩
          · have d5 : decide ((1048576 : Int) < (x : Int) + (p : Int)) = false := by simp; omega
            go_quiet ((go_at_call 74; exact Calls.quiet_of_same (HPR.out _)))
            go_wp2_with fail
            go_roundw
            case rel => first | exact ⟨1, x + p, by omega, by first | rfl | go_num | simp, by first | rfl | go_num | simp, by omega, Lib.hid ⟨HTK.out, HN2.out⟩, by (repeat (first | with_reducible (exact Since.refl _) | with_reducible assumption | with_reducible (refine Since.drew ?_) | with_reducible (refine Since.drewN ?_ _) | with_reducible (refine Since.alloc ?_ _) | (with_reducible (refine Since.setCell ?_ ?_ _); rotate_left; focus (first | (simp; done) | (simp; omega) | omega)) | (with_reducible (refine Since.trans ?_ (by with_reducible assumption)))))⟩ | ((repeat apply Exists.intro); refine ⟨?_, rfl⟩; exact ⟨1, x + p, by omega, by first | rfl | go_num | simp, by first | rfl | go_num | simp, by omega, Lib.hid ⟨HTK.out, HN2.out⟩, by (repeat (first | with_reducible (exact Since.refl _) | with_reducible assumption | with_reducible (refine Since.drew ?_) | with_reducible (refine Since.drewN ?_ _) | with_reducible (refine Since.alloc ?_ _) | (with_reducible (refine Since.setCell ?_ ?_ _); rotate_left; focus (first | (simp; done) | (simp; omega) | omega)) | (with_reducible (refine Since.trans ?_ (by with_reducible assumption)))))⟩)
            case measure => simp [intOf]; omega
        · have hjp : 0 < j := by omega
          have dz : (0 : Int) < (j : Int) := by omega
          have dz2 : decide ((0 : Int) < (j : Int)) = true := by simpa using dz
          have dz4 : decide (0 < j) = true := by simpa using hjp
          have hj1L : j - 1 < TT.length := by omega
          have hT1 : TT[j - 1]? = some TT[j - 1] := List.getElem?_eq_getElem hj1L
          obtain ⟨b1, o1, A1, c3, e1, hb1, hc3, hc4, hrd9⟩ := h.row hT1
          injection e1 with e1
          injection e1 with e1 e2
          subst e1 e2
          have q1 := (hSw.1 _ _ hb1).trans hc3
          have m1 : IntKind.i64.wrap ((j : Int) - 1) = ((j - 1 : Nat) : Int) := by rw [IntKind.wrap_i64]; omega
          have hn1 : j - 1 < N := by omega
          have HLS2 := Lib.hid (fun e => HLS.out _ hjp hT1 e)
          have HNX2 := Lib.hid (show Op.bytesLess TT[j - 1].tag.toList s.toList = true → UpTo TT (j + 1) from fun e => HNX.out rfl (fun U h0 hU => by
            rw [hT1] at hU
            injection hU with hU
            subst hU
            exact e))
          generalize TT[j - 1].tag = pt at *
          have htri := less_tri pt.toList s.toList
          obtain ⟨z2, hz2⟩ : ∃ z2, Op.bytesLess pt.toList s.toList = z2 := ⟨_, rfl⟩
          rw [hz2] at HLS2 HNX2 htri
          clear HTG HLS HNX hc3 hc4 hrd9 hT1 hj1L hord
          obtain ⟨a1, ha1⟩ : ∃ a1, Op.bytesLess s.toList pt.toList = a1 := ⟨_, rfl⟩
          obtain ⟨a2, ha2⟩ : ∃ a2, (s.toList == pt.toList) = a2 := ⟨_, rfl⟩
          rw [ha1, ha2] at htri
          cases z2
          · have E := Lib.hid (HLS2.out rfl)
            clear HLS2 HNX2
            cases a1 <;> cases a2 <;> first | (exact absurd htri (by decide)) | skip
            all_goals
              clear htri
              go_quiet ((go_at_call 74; exact Calls.quiet_of_same (HPR.out _)))
              go_wp2_with fail
              go_ret
              rw [E.out]
              exact ⟨by first | rfl | simp, by (repeat (first | with_reducible (exact Since.refl _) | with_reducible assumption | with_reducible (refine Since.drew ?_) | with_reducible (refine Since.drewN ?_ _) | with_reducible (refine Since.alloc ?_ _) | (with_reducible (refine Since.setCell ?_ ?_ _); rotate_left; focus (first | (simp; done) | (simp; omega) | omega)) | (with_reducible (refine Since.trans ?_ (by with_reducible assumption)))))⟩
          · have HN2 := Lib.hid (HNX2.out rfl)
            clear HLS2 HNX2
            cases a1 <;> cases a2 <;> first | (exact absurd htri (by decide)) | skip
            clear htri
            have ha3 : ¬ s.toList = pt.toList := by simpa using ha2
            by_cases hbig : 1048576 < x + p
            · have E := Lib.hid (HRS.out (j + 1) (by rw [← HTK.out]; exact hbig))
              have d5 : decide ((1048576 : Int) < (x : Int) + (p : Int)) = true := by simp; omega
              go_quiet ((go_at_call 74; exact Calls.quiet_of_same (HPR.out _)))
              go_wp2_with fail
              go_ret
              rw [E.out]
              exact ⟨by first | rfl | simp, by (repeat (first | with_reducible (exact Since.refl _) | with_reducible assumption | with_reducible (refine Since.drew ?_) | with_reducible (refine Since.drewN ?_ _) | with_reducible (refine Since.alloc ?_ _) | (with_reducible (refine Since.setCell ?_ ?_ _); rotate_left; focus (first | (simp; done) | (simp; omega) | omega)) | (with_reducible (refine Since.trans ?_ (by with_reducible assumption)))))⟩
            · have d5 : decide ((1048576 : Int) < (x : Int) + (p : Int)) = false := by simp; omega
              go_quiet ((go_at_call 74; exact Calls.quiet_of_same (HPR.out _)))
              go_wp2_with fail
              go_roundw
              case rel => first | exact ⟨j + 1, x + p, by omega, by first | rfl | go_num | simp, by first | rfl | go_num | simp, by omega, Lib.hid ⟨HTK.out, HN2.out⟩, by (repeat (first | with_reducible (exact Since.refl _) | with_reducible assumption | with_reducible (refine Since.drew ?_) | with_reducible (refine Since.drewN ?_ _) | with_reducible (refine Since.alloc ?_ _) | (with_reducible (refine Since.setCell ?_ ?_ _); rotate_left; focus (first | (simp; done) | (simp; omega) | omega)) | (with_reducible (refine Since.trans ?_ (by with_reducible assumption)))))⟩ | ((repeat apply Exists.intro); refine ⟨?_, rfl⟩; exact ⟨j + 1, x + p, by omega, by first | rfl | go_num | simp, by first | rfl | go_num | simp, by omega, Lib.hid ⟨HTK.out, HN2.out⟩, by (repeat (first | with_reducible (exact Since.refl _) | with_reducible assumption | with_reducible (refine Since.drew ?_) | with_reducible (refine Since.drewN ?_ _) | with_reducible (refine Since.alloc ?_ _) | (with_reducible (refine Since.setCell ?_ ?_ _); rotate_left; focus (first | (simp; done) | (simp; omega) | omega)) | (with_reducible (refine Since.trans ?_ (by with_reducible assumption)))))⟩)
              case measure => simp [intOf]; omega
    · obtain rfl : N = j := by omega
      have hjn' : ¬ (N : Int) < (N : Int) := by omega
      have E := Lib.hid (HOK.out (by rw [← HN.out]; exact HU.out.2) (by rw [← HU.out.1]; exact hx))
      clear h
      go_wp2_with fail
      go_ret
      rw [E.out]
      exact ⟨by first | rfl | simp, hS⟩
end Go.Proofs.YteckkcpnfeoehaaGreatDoor

/-
  math/bits.Len64 and LeadingZeros64 over this translation: how often a word that is not 0 can be doubled.
-/
namespace Go.Proofs.YteckkcpnfeoehaaGreatDoor
set_option maxRecDepth 100000
open Go.RowKit
set_option linter.unusedVariables false

set_option maxHeartbeats 4000000 in
set_option maxRecDepth 100000 in
theorem len64 (x : Int) (w : World) (h0 : 0 ≤ x) (h1 : x ≤ 18446744073709551615) :
    Calls Tryz.prog 125 #[.int .u64 x] w fun e w' => e = .returned (.int .i64 (Lib.bitLen x.toNat)) ∧ w = w' := by
  have z0 : 0 ≤ x / 4294967296 / 65536 / 256 := by omega
  have c0 : x / 4294967296 / 65536 / 256 < 256 → x / 4294967296 / 65536 / 256 ≤ 255 := by omega
  have z1 : 0 ≤ x / 4294967296 / 65536 := by omega
  have c1 : x / 4294967296 / 65536 < 256 → x / 4294967296 / 65536 ≤ 255 := by omega
  have z2 : 0 ≤ x / 4294967296 / 256 := by omega
  have c2 : x / 4294967296 / 256 < 256 → x / 4294967296 / 256 ≤ 255 := by omega
  have z3 : 0 ≤ x / 4294967296 := by omega
  have c3 : x / 4294967296 < 256 → x / 4294967296 ≤ 255 := by omega
  have z4 : 0 ≤ x / 65536 / 256 := by omega
  have c4 : x / 65536 / 256 < 256 → x / 65536 / 256 ≤ 255 := by omega
  have z5 : 0 ≤ x / 65536 := by omega
  have c5 : x / 65536 < 256 → x / 65536 ≤ 255 := by omega
  have z6 : 0 ≤ x / 256 := by omega
  have c6 : x / 256 < 256 → x / 256 ≤ 255 := by omega
  have c7 : x < 256 → x ≤ 255 := by omega
  have u0 : x / 4294967296 / 65536 / 256 ≤ 255 := by omega
  have u1 : x / 4294967296 < 65536 → x / 4294967296 / 256 ≤ 255 := by omega
  have u2 : x < 4294967296 → x / 65536 / 256 ≤ 255 := by omega
  have u3 : x < 65536 → x / 256 ≤ 255 := by omega
  go_enter Tryz.func125, Tryz.ntmps125
  go_wp2
  all_goals (go_ret; refine ⟨congrArg Ending.returned (congrArg (Value.int IntKind.i64) ?_), rfl⟩)
  all_goals clear c0 c1 c2 c3 c4 c5 c6 c7 u0 u1 u2 u3 z0 z1 z2 z3 z4 z5 z6
  all_goals first
    | (rw [Lib.len8_of (x / 4294967296 / 65536 / 256) (by omega) (by omega)]
       have e : (x / 4294967296 / 65536 / 256).toNat = x.toNat / 72057594037927936 := by omega
       have l := Lib.bitLen_le8' (x / 4294967296 / 65536 / 256) (by omega) (by omega)
       have s := Lib.bitLen_shift56 x.toNat (by omega) (by omega)
       rw [e] at l ⊢
       unfold wrap64; omega)
    | (rw [Lib.len8_of (x / 4294967296 / 65536) (by omega) (by omega)]
       have e : (x / 4294967296 / 65536).toNat = x.toNat / 281474976710656 := by omega
       have l := Lib.bitLen_le8' (x / 4294967296 / 65536) (by omega) (by omega)
       have s := Lib.bitLen_shift48 x.toNat (by omega) (by omega)
       rw [e] at l ⊢
       unfold wrap64; omega)
    | (rw [Lib.len8_of (x / 4294967296 / 256) (by omega) (by omega)]
       have e : (x / 4294967296 / 256).toNat = x.toNat / 1099511627776 := by omega
       have l := Lib.bitLen_le8' (x / 4294967296 / 256) (by omega) (by omega)
       have s := Lib.bitLen_shift40 x.toNat (by omega) (by omega)
       rw [e] at l ⊢
       unfold wrap64; omega)
    | (rw [Lib.len8_of (x / 4294967296) (by omega) (by omega)]
       have e : (x / 4294967296).toNat = x.toNat / 4294967296 := by omega
       have l := Lib.bitLen_le8' (x / 4294967296) (by omega) (by omega)
       have s := Lib.bitLen_shift32 x.toNat (by omega) (by omega)
       rw [e] at l ⊢
       unfold wrap64; omega)
    | (rw [Lib.len8_of (x / 65536 / 256) (by omega) (by omega)]
       have e : (x / 65536 / 256).toNat = x.toNat / 16777216 := by omega
       have l := Lib.bitLen_le8' (x / 65536 / 256) (by omega) (by omega)
       have s := Lib.bitLen_shift24 x.toNat (by omega) (by omega)
       rw [e] at l ⊢
       unfold wrap64; omega)
    | (rw [Lib.len8_of (x / 65536) (by omega) (by omega)]
       have e : (x / 65536).toNat = x.toNat / 65536 := by omega
       have l := Lib.bitLen_le8' (x / 65536) (by omega) (by omega)
       have s := Lib.bitLen_shift16 x.toNat (by omega) (by omega)
       rw [e] at l ⊢
       unfold wrap64; omega)
    | (rw [Lib.len8_of (x / 256) (by omega) (by omega)]
       have e : (x / 256).toNat = x.toNat / 256 := by omega
       have l := Lib.bitLen_le8' (x / 256) (by omega) (by omega)
       have s := Lib.bitLen_shift8 x.toNat (by omega) (by omega)
       rw [e] at l ⊢
       unfold wrap64; omega)
    | (rw [Lib.len8_of x (by omega) (by omega)]
       have l := Lib.bitLen_le8' x (by omega) (by omega)
       unfold wrap64; omega)

end Go.Proofs.YteckkcpnfeoehaaGreatDoor

/-
  Layer 4: the directory's head, walked.
-/
namespace Go.Proofs.YteckkcpnfeoehaaGreatDoor
set_option maxRecDepth 100000
open Go.RowKit Go.ChangeShapes Go.WideShapes Go.Deep
set_option linter.unusedVariables false
set_option linter.unusedSimpArgs false

@[go_sem] theorem ix4_0 (a b c d : Value) (w : World) : (Instr.index 120 (.agg #[a, b, c, d]) (.int .i64 0)).run Tryz.prog w = .ok a w := by kernel_rfl
@[go_sem] theorem ix4_1 (a b c d : Value) (w : World) : (Instr.index 120 (.agg #[a, b, c, d]) (.int .i64 1)).run Tryz.prog w = .ok b w := by kernel_rfl
@[go_sem] theorem ix4_2 (a b c d : Value) (w : World) : (Instr.index 120 (.agg #[a, b, c, d]) (.int .i64 2)).run Tryz.prog w = .ok c w := by kernel_rfl
@[go_sem] theorem ix4_3 (a b c d : Value) (w : World) : (Instr.index 120 (.agg #[a, b, c, d]) (.int .i64 3)).run Tryz.prog w = .ok d w := by kernel_rfl
theorem up4_is : ∀ n, n < 65 → 1 ≤ n → Lib.bitLen n = up4 n + 1 ∧ up4 n ≤ 6 ∧ 2 ^ up4 n ≤ n ∧ n < 2 * 2 ^ up4 n := by decide +kernel
theorem own_rdw {w : World} {base n c : Nat} {A : Option Addr} {L : List Int} (h : OwnB w base (.slice A n c) L) : RdB w w.heap.size A L := by
  obtain ⟨A', c', e, _, hr⟩ := OwnG.rd (by omega) byL_len h
  injection e with e1 e2 e3
  subst e1
  exact hr
set_option maxHeartbeats 4000000 in
theorem bits_len (n : Nat) (w : World) (h1 : 1 ≤ n) (h2 : n ≤ 64) : Calls Tryz.prog 110 #[.int .u64 (n : Int)] w fun e w' => e = .returned (.int .i64 ((up4 n + 1 : Nat) : Int)) ∧ w' = w := by
  have HC := Lib.hid (len64 (n : Int) w (by omega) (by omega))
  rw [Int.toNat_natCast, (up4_is n (by omega) h1).1] at HC
  generalize up4 n = u at *
  go_enter Tryz.func110, Tryz.ntmps110
  go_wp2_with (go_at_call 125; (with_reducible refine HC.out.mono ?_); rintro e w3 ⟨rfl, hw3⟩; have hw4 := hw3.symm; subst hw4; clear hw3)
  go_ret
  exact ⟨rfl, rfl⟩
set_option maxRecDepth 1000000 in
set_option maxHeartbeats 8000000 in
theorem sf_dir (n : Nat) (w : World) (h1 : 1 ≤ n) (h2 : n ≤ 64) : Calls Tryz.prog 62 #[.int .i64 (n : Int)] w fun e w' => ∃ v, e = .returned v ∧ OwnB w' w.heap.size v (dir4 n) ∧ Since w w' := by
  have HB := Lib.hid (fun w2 => bits_len n w2 h1 h2)
  have hnI : (n : Int) ≤ 64 := by omega
  have hn1 : (1 : Int) ≤ (n : Int) := by omega
  have ED := Lib.hid (show dir4 n = putL 65536 4 ++ (putL n 2 ++ (putL ((16 * 2 ^ up4 n : Nat) : Int) 2 ++ (putL (up4 n) 2 ++ putL (((16 * n : Nat) : Int) - ((16 * 2 ^ up4 n : Nat) : Int)) 2))) from rfl)
  obtain ⟨_, hu, hu2, hu3⟩ := up4_is n (by omega) h1
  generalize up4 n = u at *
  have hu7 : u = 0 ∨ u = 1 ∨ u = 2 ∨ u = 3 ∨ u = 4 ∨ u = 5 ∨ u = 6 := by omega
  have HP := Lib.hid (fun (x : Int) (w2 : World) (hx : In64 x) => put_o 2 x 2 w2 hx rfl (by omega))
  have HP4 := Lib.hid (fun (w2 : World) => put_o 4 65536 4 w2 (by unfold In64; omega) rfl (by omega))
  obtain ⟨pp, hpp⟩ : ∃ pp, pp = 16 * 2 ^ u := ⟨_, rfl⟩
  rw [← hpp] at ED
  have hpp2 : pp ≤ 1024 := by rcases hu7 with rfl | rfl | rfl | rfl | rfl | rfl | rfl <;> simp at hpp <;> omega
  have hppI : (pp : Int) ≤ 1024 := by omega
  have hppn : pp ≤ 16 * n := by omega
  have hsh : IntKind.i64.wrap (16 * 2 ^ u) = (pp : Int) := by rw [hpp, IntKind.wrap_i64]; rcases hu7 with rfl | rfl | rfl | rfl | rfl | rfl | rfl <;> rfl
  have huI : (u : Int) ≤ 6 := by omega
  have m1 : IntKind.i64.wrap (((u + 1 : Nat) : Int) - 1) = (u : Int) := by rw [IntKind.wrap_i64]; omega
  have m2 : IntKind.i64.wrap (16 * (n : Int)) = 16 * (n : Int) := by rw [IntKind.wrap_i64]; omega
  have m3 : IntKind.i64.wrap (16 * (n : Int) - (pp : Int)) = 16 * (n : Int) - (pp : Int) := by rw [IntKind.wrap_i64]; omega
  clear hu2 hu3 hpp
  go_enter Tryz.func62, Tryz.ntmps62
  go_wp2_with (first | (go_at_call 110; (with_reducible refine (HB.out _).mono ?_); rintro e w3 ⟨rfl, hw3⟩; have hw4 := hw3.symm; subst hw4; clear hw3) | (go_at_call 64; (with_reducible refine (HP4.out _).mono ?_); rintro e w4 ⟨g4, rfl, hg4, hO4, hS4⟩))
  obtain ⟨q, hq⟩ : ∃ q : Int, q = 16 * (n : Int) - (pp : Int) := ⟨_, rfl⟩
  have EQ := Lib.hid (show ((16 * n : Nat) : Int) - (pp : Int) = q by rw [hq]; simp)
  rw [← hq]
  have hqb : 0 ≤ q ∧ q ≤ 1024 := by omega
  clear hq m1 m2 m3 hsh
  have HD := Lib.hid (show putL 65536 4 ++ nums8 ([(n : Int), (pp : Int), (u : Int), q] : List Int) = dir4 n by rw [ED.out, EQ.out]; simp [nums8])
  go_loopw [5, 23] (fun v y wr => ∃ (i : Nat) (z : Int), i ≤ 4 ∧ z = (i : Int) ∧ y = .int .i64 z ∧ OwnB wr w.heap.size v (putL 65536 4 ++ nums8 (([(n : Int), (pp : Int), (u : Int), q] : List Int).take i)) ∧ Since w wr) (fun _ y _ => 4 - (intOf y).toNat)
  case atStart => exact ⟨0, 0, by omega, rfl, rfl, by simpa [nums8] using hO4, hS4⟩
  case round =>
    obtain ⟨i, z, hi, hz, rfl, hO, hS⟩ := hrel
    clear hO4 hS4
    have hi5 : i = 0 ∨ i = 1 ∨ i = 2 ∨ i = 3 ∨ i = 4 := by omega
    rcases hi5 with rfl | rfl | rfl | rfl | rfl

    · obtain rfl : z = 0 := by omega
      have HTA := Lib.hid (show putL 65536 4 ++ nums8 (([(n : Int), (pp : Int), (u : Int), q] : List Int).take 1) = putL 65536 4 ++ nums8 (([(n : Int), (pp : Int), (u : Int), q] : List Int).take 0) ++ putL ↑n 2 by simp [nums8])
      have hlen : (putL 65536 4 ++ nums8 (([(n : Int), (pp : Int), (u : Int), q] : List Int).take 0)).length + (putL ↑n 2).length ≤ 140737488355328 := by rw [List.length_append, nums8_len, putL_len, putL_len, List.length_take]; omega
      clear hz
      generalize putL 65536 4 ++ nums8 (([(n : Int), (pp : Int), (u : Int), q] : List Int).take 0) = P at *
      go_wp2_with (first | (go_at_call 64; (with_reducible refine (HP.out ↑n _ (by unfold In64; omega)).mono ?_); rintro e w6 ⟨g6, rfl, hg6, hO6, hS6⟩; have hT6 := hS.trans hS6; have hP6 := OwnG.since hO hS6; have hr6 := own_rdw hO6; have hl6 := putL_len ↑n 2) | (at_builtin; refine wpList_append_b rfl _ _ rfl hT6 _ P rfl hP6 _ (some ⟨g6, 0, none⟩) 2 2 (putL ↑n 2) hl6.symm rfl hr6 hlen ?_; intro v7 w7 hO7 hS7))
      go_roundw
      case rel => exact ⟨1, 1, by omega, rfl, by first | rfl | go_num | simp, by rw [HTA.out]; exact hO7, hS7⟩
      case measure => simp [intOf]

    · obtain rfl : z = 1 := by omega
      have HTA := Lib.hid (show putL 65536 4 ++ nums8 (([(n : Int), (pp : Int), (u : Int), q] : List Int).take 2) = putL 65536 4 ++ nums8 (([(n : Int), (pp : Int), (u : Int), q] : List Int).take 1) ++ putL ↑pp 2 by simp [nums8])
      have hlen : (putL 65536 4 ++ nums8 (([(n : Int), (pp : Int), (u : Int), q] : List Int).take 1)).length + (putL ↑pp 2).length ≤ 140737488355328 := by rw [List.length_append, nums8_len, putL_len, putL_len, List.length_take]; omega
      clear hz
      generalize putL 65536 4 ++ nums8 (([(n : Int), (pp : Int), (u : Int), q] : List Int).take 1) = P at *
      go_wp2_with (first | (go_at_call 64; (with_reducible refine (HP.out ↑pp _ (by unfold In64; omega)).mono ?_); rintro e w6 ⟨g6, rfl, hg6, hO6, hS6⟩; have hT6 := hS.trans hS6; have hP6 := OwnG.since hO hS6; have hr6 := own_rdw hO6; have hl6 := putL_len ↑pp 2) | (at_builtin; refine wpList_append_b rfl _ _ rfl hT6 _ P rfl hP6 _ (some ⟨g6, 0, none⟩) 2 2 (putL ↑pp 2) hl6.symm rfl hr6 hlen ?_; intro v7 w7 hO7 hS7))
      go_roundw
      case rel => exact ⟨2, 2, by omega, rfl, by first | rfl | go_num | simp, by rw [HTA.out]; exact hO7, hS7⟩
      case measure => simp [intOf]

    · obtain rfl : z = 2 := by omega
      have HTA := Lib.hid (show putL 65536 4 ++ nums8 (([(n : Int), (pp : Int), (u : Int), q] : List Int).take 3) = putL 65536 4 ++ nums8 (([(n : Int), (pp : Int), (u : Int), q] : List Int).take 2) ++ putL ↑u 2 by simp [nums8])
      have hlen : (putL 65536 4 ++ nums8 (([(n : Int), (pp : Int), (u : Int), q] : List Int).take 2)).length + (putL ↑u 2).length ≤ 140737488355328 := by rw [List.length_append, nums8_len, putL_len, putL_len, List.length_take]; omega
      clear hz
      generalize putL 65536 4 ++ nums8 (([(n : Int), (pp : Int), (u : Int), q] : List Int).take 2) = P at *
      go_wp2_with (first | (go_at_call 64; (with_reducible refine (HP.out ↑u _ (by unfold In64; omega)).mono ?_); rintro e w6 ⟨g6, rfl, hg6, hO6, hS6⟩; have hT6 := hS.trans hS6; have hP6 := OwnG.since hO hS6; have hr6 := own_rdw hO6; have hl6 := putL_len ↑u 2) | (at_builtin; refine wpList_append_b rfl _ _ rfl hT6 _ P rfl hP6 _ (some ⟨g6, 0, none⟩) 2 2 (putL ↑u 2) hl6.symm rfl hr6 hlen ?_; intro v7 w7 hO7 hS7))
      go_roundw
      case rel => exact ⟨3, 3, by omega, rfl, by first | rfl | go_num | simp, by rw [HTA.out]; exact hO7, hS7⟩
      case measure => simp [intOf]

    · obtain rfl : z = 3 := by omega
      have HTA := Lib.hid (show putL 65536 4 ++ nums8 (([(n : Int), (pp : Int), (u : Int), q] : List Int).take 4) = putL 65536 4 ++ nums8 (([(n : Int), (pp : Int), (u : Int), q] : List Int).take 3) ++ putL q 2 by simp [nums8])
      have hlen : (putL 65536 4 ++ nums8 (([(n : Int), (pp : Int), (u : Int), q] : List Int).take 3)).length + (putL q 2).length ≤ 140737488355328 := by rw [List.length_append, nums8_len, putL_len, putL_len, List.length_take]; omega
      clear hz
      generalize putL 65536 4 ++ nums8 (([(n : Int), (pp : Int), (u : Int), q] : List Int).take 3) = P at *
      go_wp2_with (first | (go_at_call 64; (with_reducible refine (HP.out q _ (by unfold In64; omega)).mono ?_); rintro e w6 ⟨g6, rfl, hg6, hO6, hS6⟩; have hT6 := hS.trans hS6; have hP6 := OwnG.since hO hS6; have hr6 := own_rdw hO6; have hl6 := putL_len q 2) | (at_builtin; refine wpList_append_b rfl _ _ rfl hT6 _ P rfl hP6 _ (some ⟨g6, 0, none⟩) 2 2 (putL q 2) hl6.symm rfl hr6 hlen ?_; intro v7 w7 hO7 hS7))
      go_roundw
      case rel => exact ⟨4, 4, by omega, rfl, by first | rfl | go_num | simp, by rw [HTA.out]; exact hO7, hS7⟩
      case measure => simp [intOf]

    · obtain rfl : z = 4 := by omega
      rw [show ([(n : Int), (pp : Int), (u : Int), q] : List Int).take 4 = [(n : Int), (pp : Int), (u : Int), q] from rfl, HD.out] at hO
      have HO := Lib.hid hO
      clear hO hz hi
      go_wp2_with fail
      go_ret
      exact ⟨_, rfl, HO.out, hS⟩
end Go.Proofs.YteckkcpnfeoehaaGreatDoor
