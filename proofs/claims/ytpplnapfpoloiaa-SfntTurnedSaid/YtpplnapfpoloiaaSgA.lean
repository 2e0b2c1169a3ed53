/-
  Layer 4: the law SfntTurned, walked.
-/
import Derived.Test.YtpplnapfpoloiaaSfZ
import Derived.Test.YtpplnapfpoloiaaKitOs
namespace Go.Proofs.Ytpplnapfpoloiaa
open Go.RowKit Go.ChangeShapes Go.WideShapes Go.Deep
set_option linter.unusedVariables false
set_option linter.unusedSimpArgs false

set_option maxRecDepth 1000000 in
set_option maxHeartbeats 32000000 in
theorem walk_sfntturned (A : Option Addr) (c : Nat) (TT : List Tb) (n : Nat) (b : Int) (w : World) (h : RdTL w w.heap.size A TT) (hn : TT.length ≤ maxLen) (hm : ∀ T, T ∈ TT → T.data.length ≤ maxLen ∧ T.tag.size ≤ maxLen) (hb : ∀ T, T ∈ TT → Bytes T.data) (hn16 : n ≤ 65535) (hb8 : 0 ≤ b ∧ b ≤ 255) :
    Calls Try.prog 7 #[.slice A TT.length c, .int .u16 (n : Int), .int .u8 b] w fun e w' => e = .returned (.bool true) ∧ Since w w' := by
  have HG := Lib.hid (fun (w2 : World) (h2 : Since w w2) => rf_greatT A c TT w2 (h.on h2) hn hm)
  obtain ⟨N, hN⟩ : ∃ N, N = TT.length := ⟨_, rfl⟩
  have HWR := Lib.hid (fun (w2 : World) (h2 : Since w w2) (hf : FewT TT) => sf_write A N c TT w2 (h.on h2) hN hf hb)
  have HRR := Lib.hid (fun (w2 : World) (h2 : Since w w2) (hf : FewT TT) => sf_right A N c TT w2 (h.on h2) hN hf)
  rw [← hN] at HG ⊢
  unfold GreatTP at HG
  have HNN := Lib.hid hN
  have HRT := Lib.hid (fun (w2 : World) (h2 : Since w w2) => h.on h2)
  have HBB := Lib.hid hb
  clear h hn hm hb hN
  by_cases hb0 : b = 0
  · subst hb0
    clear HWR HRR HNN HRT HBB
    go_enter Try.func7, Try.ntmps7
    go_upto_region 5 with (first | (go_at_call 15; (with_reducible refine (alive04 _).mono ?_); rintro e w1 ⟨rfl, hS1⟩) | (go_at_call 16; (with_reducible refine (HG.out _ hS1).mono ?_); rintro e w2 ⟨g, rfl, hg, hS2⟩; have hA2 := hS1.trans hS2; clear hg HG; cases g))
    all_goals go_wp2_with fail
    all_goals go_ret
    all_goals exact ⟨by first | rfl | simp, hA2⟩
  by_cases hR : right4 TT
  · have hG := rightG_yes hR
    rw [hG] at HRR HWR
    simp only [if_true, reduceIte] at HWR
    have hN64 : N ≤ 64 := by have := hR.2.1; have := HNN.out; omega
    have hN1 : 1 ≤ N := by have := hR.1; have := HNN.out; omega
    have hNI : (N : Int) ≤ 64 := by omega
    have hfs := file4_len hR
    have hs3 := hR.2.2.1
    have hFB := bytes_filez HBB.out
    have HRD := Lib.hid (fun (A' : Option Addr) (c' m : Nat) (base : Nat) (i : Nat) (T : Tb) (Y : Int) (hi : TT[i]? = some T) (hnT : n < T.data.length) (ha : ¬ (adjT T = true ∧ 8 ≤ n ∧ n < 12)) (hY : Y = (fnL (file4 TT) (end4 (12 + 16 * TT.length) (TT.take i) + n) + b) % 256) (w2 : World) (hO : OwnB w2 base (.slice A' m c') ((file4 TT).set (end4 (12 + 16 * TT.length) (TT.take i) + n) Y)) => by
      obtain ⟨hr, hl, hc⟩ := ownB_rdv hO
      have hbt : Bytes ((file4 TT).set (end4 (12 + 16 * TT.length) (TT.take i) + n) Y) := fun v hv => by
        rcases List.mem_or_eq_of_mem_set hv with h1 | h1
        · exact hFB v h1
        · rw [h1, hY]; omega
      have h0 := sf_read4 A' m c' _ w2 hr hl hbt (by rw [hl, List.length_set]; omega) hc
      have h1 := rd4_turned (n := n) hR HBB.out hFB hi hnT ha (v := b) (by omega)
      unfold turn4 at h1
      rw [← hY] at h1
      unfold RdP at h0
      rw [h1] at h0
      exact h0)
    have HST := Lib.hid (fun (j : Nat) (T : Tb) (hj : TT[j]? = some T) => end4_step (12 + 16 * N) hj)
    have HLE := Lib.hid (fun (j : Nat) (T : Tb) (hj : TT[j]? = some T) => show end4 (12 + 16 * N) (TT.take j) + T.data.length ≤ (file4 TT).length ∧ (file4 TT).length ≤ 1048576 from by
      have h1 := end4_step (12 + 16 * TT.length) hj
      have h2 := end4_take_le TT (12 + 16 * TT.length) (j + 1)
      have h3 := pad4_le T.data.length
      unfold size4 at hfs hs3
      rw [HNN.out]
      constructor <;> omega)
    rw [← HNN.out] at HRD
    obtain ⟨F, hF⟩ : ∃ F, F = file4 TT := ⟨_, rfl⟩
    have hFb2 : ∀ k, k < F.length → 0 ≤ fnL F k ∧ fnL F k ≤ 255 := by rw [hF]; exact bytes_fn hFB
    rw [← hF] at HRD HWR HLE
    have HFB := Lib.hid hFb2
    have hZ0 : 0 < F.length := by rw [hF]; have : 12 + 16 * TT.length ≤ size4 TT := end4_ge _ _; omega
    obtain ⟨Z, hZ⟩ : ∃ Z, Z = F.length := ⟨_, rfl⟩
    rw [← hZ] at HLE hZ0
    have HZ := Lib.hid hZ
    clear hZ hfs hs3 hG hF hFb2 hFB
    have m1 : IntKind.i64.wrap (16 * (N : Int)) = 16 * (N : Int) := by rw [IntKind.wrap_i64]; omega
    have m2 : IntKind.i64.wrap (12 + 16 * (N : Int)) = 12 + 16 * (N : Int) := by rw [IntKind.wrap_i64]; omega
    have m3 : IntKind.i64.wrap (n : Int) = (n : Int) := by rw [IntKind.wrap_i64]; omega
    go_enter Try.func7, Try.ntmps7
    go_upto_region 5 with (first | (go_at_call 15; (with_reducible refine (alive04 _).mono ?_); rintro e w1 ⟨rfl, hS1⟩) | (go_at_call 16; (with_reducible refine (HG.out _ hS1).mono ?_); rintro e w2 ⟨g, rfl, hg, hS2⟩; have hA2 := hS1.trans hS2; have HNG := Lib.hid hg; clear hg; cases g))
    · have HF := Lib.hid (few_of HNG.out)
      clear HNG HG
      go_wp2_with (first | (go_at_call 18; (with_reducible refine (HWR.out _ hA2 HF.out).mono ?_); rintro e w4 ⟨v4, rfl, hO4, hS4⟩; have hA4 := hA2.trans hS4; have hO4 := OwnG.low hO4 hA2.below.size; obtain ⟨q, c4, rfl, hq, hq4, hc4⟩ := own_some hO4 (by rw [← HZ.out]; exact hZ0); rw [← HZ.out] at hO4 ⊢))
      clear HWR HRR hS1 hS2 hS4 hA2
      go_loopw [9, 38] (fun v y wr => ∃ (j : Nat), j ≤ N ∧ y = .int .i64 (j : Int) ∧ v = .int .i64 (end4 (12 + 16 * N) (TT.take j) : Int) ∧ Since w4 wr) (fun _ y _ => N - (intOf y).toNat)
      case atStart => exact ⟨0, by omega, rfl, by simp [end4], Since.refl _⟩
      case round =>
        obtain ⟨j, hj, rfl, rfl, hS⟩ := hrel
        clear m1 m2
        have hAr := hA4.trans hS
        by_cases hjn : j < N
        · have hjn' : (j : Int) < N := by omega
          have hjL : j < TT.length := by rw [← HNN.out]; exact hjn
          have hT : TT[j]? = some TT[j] := List.getElem?_eq_getElem hjL
          have hml := (HF.out.2 _ (List.mem_of_getElem? hT)).1
          obtain ⟨b', o, A', c', rfl, hb', hc1, hc2, _⟩ := (HRT.out _ hAr).row hT
          have HRj := Lib.hid (fun A' c' m base Y hnT ha hY w2 hO => HRD.out A' c' m base j _ Y hT hnT ha hY w2 hO)
          have hle := HLE.out j _ hT
          have HTK := Lib.hid (HST.out j _ hT)
          have HA := Lib.hid (show adjT TT[j] = ((TT[j].tag.toList == [104, 101, 97, 100]) && decide (12 ≤ TT[j].data.length)) from rfl)
          generalize TT[j] = T at *
          obtain ⟨s, L⟩ := T
          simp only at hc1 hc2 hml HRj hle HTK HA
          obtain ⟨l, hl0⟩ : ∃ l, l = L.length := ⟨_, rfl⟩
          rw [← hl0] at hc2 hml HRj hle HTK HA
          have hp := pad4_le l
          have hpd : pad4 l = (l + 3) / 4 * 4 := rfl
          generalize pad4 l = p at *
          generalize end4 (12 + 16 * N) (TT.take j) = x at *
          generalize adjT ⟨s, L⟩ = aj at *
          have hlI : (l : Int) ≤ 1000000 := by omega
          have hxI : (x : Int) ≤ 1048576 := by omega
          clear hT hl0 HRD HLE HST hjL
          by_cases hnl : n < l
          · have hnl' : (n : Int) < (l : Int) := by omega
            have m4 : IntKind.i64.wrap ((x : Int) + (n : Int)) = ((x + n : Nat) : Int) := by rw [IntKind.wrap_i64]; omega
            have hOr := OwnG.since hO4 hS
            have hcel := OwnB.cell hOr (x + n) (by rw [← HZ.out]; omega)
            have hvb := HFB.out (x + n) (by rw [← HZ.out]; omega)
            have hxz : x + n < Z := by omega
            have hxc : (x : Int) + (n : Int) < (Z : Int) := by omega
            have hqr : q < wr.heap.size := hS.2.2.1 _ hq4
            have hle2 : Z ≤ c4 := by have := HZ.out; omega
            have hRr := HRj.out (some ⟨q, 0, none⟩) c4 Z w.heap.size
            generalize fnL F (x + n) = V at *
            obtain ⟨c5, c6⟩ := hcel
            have m5 : IntKind.u8.wrap (V + b) = (V + b) % 256 := by rw [IntKind.wrap_u8]
            have HM5 := Lib.hid m5
            obtain ⟨K, hK⟩ : ∃ K, K = x + n := ⟨_, rfl⟩
            rw [← hK] at c5 c6 m4 hxz hRr
            have hKI : (K : Int) < (Z : Int) := by omega
            have hKc : (K : Int) ≤ 1048576 := by omega
            have HOr := Lib.hid hOr
            have hSr : Since wr wr := Since.refl _
            have hc7 := (hSr.1 _ _ hb').trans hc1
            have hc8 := (hSr.1 _ _ hb').trans hc2
            have hbw := hb'
            clear hle hp hpd hml hOr hK
            obtain ⟨Y, hY⟩ : ∃ Y, Y = (V + b) % 256 := ⟨_, rfl⟩
            have hYr : 0 ≤ Y ∧ Y ≤ 255 := by omega
            rw [← hY] at m5
            have HY := Lib.hid hY
            clear hY HM5
            by_cases hb2 : s.toList = [104, 101, 97, 100]
            · by_cases h12 : 12 ≤ l
              · have d1 : decide ((12 : Int) ≤ (l : Int)) = true := by simp; omega
                have d2 : (12 : Int) ≤ (l : Int) := by omega
                by_cases h8 : 8 ≤ n
                · have d3 : decide ((8 : Int) ≤ (n : Int)) = true := by simp; omega
                  have d4 : (8 : Int) ≤ (n : Int) := by omega
                  by_cases hn12 : n < 12
                  · have d5 : decide ((n : Int) < (12 : Int)) = true := by simp; omega
                    have d6 : (n : Int) < (12 : Int) := by omega
                    go_wp2_with fail
                    go_ret
                    exact ⟨by first | rfl | simp, by (repeat (first | with_reducible (exact Since.refl _) | with_reducible assumption | with_reducible (refine Since.drew ?_) | with_reducible (refine Since.drewN ?_ _) | with_reducible (refine Since.alloc ?_ _) | (with_reducible (refine Since.setCell ?_ ?_ _); rotate_left; focus (first | (simp; done) | (simp; omega) | omega)) | (with_reducible (refine Since.trans ?_ (by with_reducible assumption)))))⟩
                  · have d5 : decide ((n : Int) < (12 : Int)) = false := by simp; omega
                    have d6 : ¬ (n : Int) < (12 : Int) := by omega
                    have ha : ¬ (aj = true ∧ 8 ≤ n ∧ n < 12) := by omega
                    go_wp2_with (go_at_call 24; (with_reducible refine (hRr Y hnl ha HY.out _ (OwnG.alloc (OwnB.put HOr.out K Y) _)).mono ?_); rintro e w9 ⟨v9, rfl, hO9, hS9⟩; obtain ⟨A9, c9, rfl⟩ := ownT_none hO9)
                    go_ret
                    exact ⟨by first | rfl | simp, ((hAr.setCell hq _).alloc _).trans hS9⟩
                · have d3 : decide ((8 : Int) ≤ (n : Int)) = false := by simp; omega
                  have d4 : ¬ (8 : Int) ≤ (n : Int) := by omega
                  have ha : ¬ (aj = true ∧ 8 ≤ n ∧ n < 12) := by omega
                  go_wp2_with (go_at_call 24; (with_reducible refine (hRr Y hnl ha HY.out _ (OwnG.alloc (OwnB.put HOr.out K Y) _)).mono ?_); rintro e w9 ⟨v9, rfl, hO9, hS9⟩; obtain ⟨A9, c9, rfl⟩ := ownT_none hO9)
                  go_ret
                  exact ⟨by first | rfl | simp, ((hAr.setCell hq _).alloc _).trans hS9⟩
              · have d1 : decide ((12 : Int) ≤ (l : Int)) = false := by simp; omega
                have d2 : ¬ (12 : Int) ≤ (l : Int) := by omega
                have ha : ¬ (aj = true ∧ 8 ≤ n ∧ n < 12) := by rintro ⟨h1, _⟩; rw [HA.out] at h1; simp at h1; exact h12 h1.2
                go_wp2_with (go_at_call 24; (with_reducible refine (hRr Y hnl ha HY.out _ (OwnG.alloc (OwnB.put HOr.out K Y) _)).mono ?_); rintro e w9 ⟨v9, rfl, hO9, hS9⟩; obtain ⟨A9, c9, rfl⟩ := ownT_none hO9)
                go_ret
                exact ⟨by first | rfl | simp, ((hAr.setCell hq _).alloc _).trans hS9⟩
            · have ha : ¬ (aj = true ∧ 8 ≤ n ∧ n < 12) := by rintro ⟨h1, _⟩; rw [HA.out] at h1; simp at h1; exact hb2 h1.1
              go_wp2_with (go_at_call 24; (with_reducible refine (hRr Y hnl ha HY.out _ (OwnG.alloc (OwnB.put HOr.out K Y) _)).mono ?_); rintro e w9 ⟨v9, rfl, hO9, hS9⟩; obtain ⟨A9, c9, rfl⟩ := ownT_none hO9)
              go_ret
              exact ⟨by first | rfl | simp, ((hAr.setCell hq _).alloc _).trans hS9⟩
          · have hnl' : ¬ (n : Int) < (l : Int) := by omega
            have u1 : IntKind.i64.wrap ((l : Int) + 3) = (l : Int) + 3 := by rw [IntKind.wrap_i64]; omega
            have u2 : ((l : Int) + 3).tdiv 4 = (((l + 3) / 4 : Nat) : Int) := by rw [Int.tdiv_eq_ediv_of_nonneg (by omega)]; omega
            have u3 : IntKind.i64.wrap ((((l + 3) / 4 : Nat) : Int) * 4) = (p : Int) := by rw [IntKind.wrap_i64]; omega
            have u4 : IntKind.i64.wrap ((x : Int) + (p : Int)) = ((x + p : Nat) : Int) := by rw [IntKind.wrap_i64]; omega
            have u5 : IntKind.i64.wrap (((l + 3) / 4 : Nat) : Int) = (((l + 3) / 4 : Nat) : Int) := by rw [IntKind.wrap_i64]; omega
            clear hpd hp
            generalize (l + 3) / 4 = t at *
            go_wp2_with fail
            go_roundw
            case rel => first | exact ⟨j + 1, by omega, by first | rfl | go_num | simp, by rw [HTK.out]; first | rfl | go_num | simp, by (repeat (first | with_reducible (exact Since.refl _) | with_reducible assumption | with_reducible (refine Since.drew ?_) | with_reducible (refine Since.drewN ?_ _) | with_reducible (refine Since.alloc ?_ _) | (with_reducible (refine Since.setCell ?_ ?_ _); rotate_left; focus (first | (simp; done) | (simp; omega) | omega)) | (with_reducible (refine Since.trans ?_ (by with_reducible assumption)))))⟩ | ((repeat apply Exists.intro); refine ⟨?_, rfl⟩; exact ⟨j + 1, by omega, by first | rfl | go_num | simp, by rw [HTK.out]; first | rfl | go_num | simp, by (repeat (first | with_reducible (exact Since.refl _) | with_reducible assumption | with_reducible (refine Since.drew ?_) | with_reducible (refine Since.drewN ?_ _) | with_reducible (refine Since.alloc ?_ _) | (with_reducible (refine Since.setCell ?_ ?_ _); rotate_left; focus (first | (simp; done) | (simp; omega) | omega)) | (with_reducible (refine Since.trans ?_ (by with_reducible assumption)))))⟩)
            case measure => simp [intOf]; omega
        · obtain rfl : N = j := by omega
          have hjn' : ¬ (N : Int) < (N : Int) := by omega
          generalize end4 (12 + 16 * N) (TT.take N) = x at *
          go_wp2_with fail
          go_ret
          exact ⟨by first | rfl | simp, hAr⟩
    · go_wp2_with fail
      go_ret
      exact ⟨by first | rfl | simp, hA2⟩
  · have hG := rightG_no hR
    rw [hG] at HRR HWR
    simp only [Bool.false_eq_true, if_false, reduceIte] at HWR
    go_enter Try.func7, Try.ntmps7
    go_upto_region 5 with (first | (go_at_call 15; (with_reducible refine (alive04 _).mono ?_); rintro e w1 ⟨rfl, hS1⟩) | (go_at_call 16; (with_reducible refine (HG.out _ hS1).mono ?_); rintro e w2 ⟨g, rfl, hg, hS2⟩; have hA2 := hS1.trans hS2; have HNG := Lib.hid hg; clear hg; cases g))
    · have HF := Lib.hid (few_of HNG.out)
      clear HNG HG
      go_wp2_with (first | (go_at_call 18; (with_reducible refine (HWR.out _ hA2 HF.out).mono ?_); rintro e w4 ⟨v4, rfl, hO4, hS4⟩; have hA4 := hA2.trans hS4) | (go_at_call 20; (with_reducible refine (HRR.out _ hA4 HF.out).mono ?_); rintro e w6 ⟨rfl, hS6⟩; have hA6 := hA4.trans hS6))
      go_ret
      exact ⟨by first | rfl | simp, hA6⟩
    · go_wp2_with fail
      go_ret
      exact ⟨by first | rfl | simp, hA2⟩
theorem walk_sfntturned_i (A : Option Addr) (c : Nat) (TT : List Tb) (n b : Int) (w : World) (h : RdTL w w.heap.size A TT) (hn : TT.length ≤ maxLen) (hm : ∀ T, T ∈ TT → T.data.length ≤ maxLen ∧ T.tag.size ≤ maxLen) (hb : ∀ T, T ∈ TT → Bytes T.data) (hn16 : 0 ≤ n ∧ n ≤ 65535) (hb8 : 0 ≤ b ∧ b ≤ 255) :
    Calls Try.prog 7 #[.slice A TT.length c, .int .u16 n, .int .u8 b] w fun e w' => e = .returned (.bool true) ∧ Since w w' := by
  obtain ⟨m, rfl⟩ : ∃ m : Nat, n = m := ⟨n.toNat, by omega⟩
  exact walk_sfntturned A c TT m b w h hn hm hb (by omega) hb8
end Go.Proofs.Ytpplnapfpoloiaa
