/-
  Layer 22: the document's 'Disc', walked.
-/
import Derived.Test.YtckochcocflleaaArJ
import Derived.Test.YtckochcocflleaaFaF
namespace Go.Proofs.Ytckochcocflleaa
open Go.RowKit Go.ChangeShapes Go.WideShapes Go.Deep
set_option linter.unusedVariables false

theorem rf_moreA (x y u v : Int) (h1 : Near x) (h2 : Near y) (h3 : Near u) (h4 : Near v) (w : World) :
    Calls Try.prog 28 #[Pt x y, Pt u v] w fun e w' => e = .returned (Pt (x + u) (y + v)) ∧ Since w w' := by
  unfold Near at *
  unfold Pt
  go_enter Try.func28, Try.ntmps28
  go_wp2
  refine bodyPost_ret (by simp only [results, Try.results28]; go_simp) rfl ⟨rfl, ?_⟩
  (repeat (first | with_reducible (exact Since.refl _) | with_reducible assumption | with_reducible (refine Since.drew ?_) | with_reducible (refine Since.drewN ?_ _) | with_reducible (refine Since.alloc ?_ _) | (with_reducible (refine Since.setCell ?_ ?_ _); rotate_left; focus (first | (simp; done) | (simp; omega) | omega)) | (with_reducible (refine Since.trans ?_ (by with_reducible assumption)))))
/-- The document's disc, ahead of its end: what a list is. -/
def DiscR (w : World) (L : List Pq) (e : Ending) (w' : World) : Prop := ∃ A c, e = .returned (.slice A L.length c) ∧ RdG 2 ptL w' w'.heap.size A L ∧ Since w w'
set_option maxRecDepth 100000 in
set_option maxHeartbeats 8000000 in
theorem rf_disc (cx cy r : Int) (hg0 : goodB cx cy = true) (hlen : lenB r = true) (w : World) :
    Calls Try.prog 42 #[Pt cx cy, .int .i64 r] w (DiscR w (discL cx cy r)) := by
  have hgi := goodB_iff.1 hg0
  obtain ⟨r0, r1⟩ := lenB_iff.1 hlen
  have hSt := fun w => rf_steps r w
  obtain ⟨m1, m2⟩ := stpI_in hlen
  have hD : discL cx cy r = closeD (rawD cx cy r (stpI r).toNat 4) := rfl
  obtain ⟨m, hm⟩ : ∃ m : Nat, stpI r = (m : Int) := ⟨(stpI r).toNat, by omega⟩
  rw [hm, Int.toNat_natCast] at hD
  rw [hm] at hSt m1 m2
  have hrd := fun (s i : Nat) (hs : s < 4) (hi : i < 2 * m) => show (∀ w, Calls Try.prog 77 #[Pt m ((i : Int) - m), .int .i64 (s : Int)] w fun e w' => e = .returned (Pt (dirD m s i).1 (dirD m s i).2) ∧ Since w w') ∧ (∀ w, Calls Try.prog 35 #[Pt (dirD m s i).1 (dirD m s i).2, .int .i64 r] w fun e w' => e = .returned (Pt (alX (dirD m s i).1 (dirD m s i).2 r) (alY (dirD m s i).1 (dirD m s i).2 r)) ∧ Since w w') ∧ (∀ w, Calls Try.prog 28 #[Pt cx cy, Pt (alX (dirD m s i).1 (dirD m s i).2 r) (alY (dirD m s i).1 (dirD m s i).2 r)] w fun e w' => e = .returned (Pt (ptD cx cy r m s i).x (ptD cx cy r m s i).y) ∧ Since w w') from by
    have hok := dirD_ok (s := s) (i := i) hlen (by omega) (by omega) hi
    have hin := al_in (x := (dirD m s i).1) (y := (dirD m s i).2) (qu_nz (m : Int) ((i : Int) - m) (by omega) s) r0
    refine ⟨fun w => ?_, fun w => rf_along _ _ r hok w, fun w => rf_moreA _ _ _ _ (by unfold Near; omega) (by unfold Near; omega) (by unfold Near; omega) (by unfold Near; omega) w⟩
    have h := rf_quarter (m : Int) ((i : Int) - m) (s : Int) (by unfold Tiny; omega) (by unfold Tiny; omega) (by unfold In64; omega) w
    have e : resQ (m : Int) ((i : Int) - m) (s : Int) = dirD m s i := by
      unfold resQ dirD
      rw [show ((s : Int) % 4).toNat = s by omega]
    rw [e] at h
    exact h
  have hlR := fun s => rawD_len cx cy r m s
  have hlS := fun s L i => sideD_len cx cy r m s L i
  have hz : rawD cx cy r m 0 = [] := rfl
  have hs : ∀ s, rawD cx cy r m (s + 1) = sideD cx cy r m s (rawD cx cy r m s) (2 * m) := fun s => rfl
  have hs0 : ∀ s L, sideD cx cy r m s L 0 = L := fun s L => rfl
  have hs1 : ∀ s L i, sideD cx cy r m s L (i + 1) = addP (sideD cx cy r m s L i) (ptD cx cy r m s i) := fun s L i => rfl
  generalize discL cx cy r = LD at *
  have HD := Lib.hid hD; have HST := Lib.hid hSt; have HRD := Lib.hid hrd; have HLR := Lib.hid hlR; have HLS := Lib.hid hlS; have HZ := Lib.hid hz; have HS := Lib.hid hs; have HS0 := Lib.hid hs0; have HS1 := Lib.hid hs1
  clear hD hSt hrd hlR hlS hz hs hs0 hs1 hgi hm hg0 hlen r0 r1
  generalize hR : rawD cx cy r m = R at *
  generalize hSD : sideD cx cy r m = SD at *
  generalize hPD : ptD cx cy r m = PD at *
  clear hR hSD hPD
  have u0 : IntKind.i64.wrap (-(m : Int)) = -(m : Int) := IntWalk.i64_in _ (by omega)
  unfold Pt at *
  go_enter Try.func42, Try.ntmps42
  go_wp2_with (go_at_call 39; (with_reducible refine (HST.out _).mono ?_); rintro e w1 ⟨rfl, hS1⟩; have hP1 := (pt_new w _ rfl cx cy _).since hS1; have hT1 : Since w w1 := (by (repeat (first | with_reducible (exact Since.refl _) | with_reducible assumption | with_reducible (refine Since.drew ?_) | with_reducible (refine Since.drewN ?_ _) | with_reducible (refine Since.alloc ?_ _) | (with_reducible (refine Since.setCell ?_ ?_ _); rotate_left; focus (first | (simp; done) | (simp; omega) | omega)) | (with_reducible (refine Since.trans ?_ (by with_reducible assumption)))))))
  clear HST hS1
  go_loopw [6, 7] (fun v y wr => ∃ s : Nat, s ≤ 4 ∧ y = .int .i64 (s : Int) ∧ OwnG 34 2 ptL wr w1.heap.size v (R s) ∧ Since w1 wr) (fun _ y _ => 4 - (intOf y).toNat)
  case atStart => exact ⟨0, by omega, rfl, by rw [HZ.out]; exact OwnG.nil _ _ _ _ _, Since.refl _⟩
  case round =>
    obtain ⟨s, hs, rfl, hO, hSr⟩ := hrel
    by_cases hlt : s < 4
    · have hlt' : (s : Int) < 4 := by omega
      have us : IntKind.i64.wrap ((s : Int) + 1) = (s : Int) + 1 := IntWalk.i64_in _ (by omega)
      have HOs := Lib.hid hO
      have HSr := Lib.hid hSr
      clear hO hSr
      go_wp2_with fail
      go_loopw [6, 8] (fun v y wk => ∃ i : Nat, i ≤ 2 * m ∧ y = .int .i64 ((i : Int) - m) ∧ OwnG 34 2 ptL wk w1.heap.size v (SD s (R s) i) ∧ Since w1 wk) (fun _ y _ => 2 * m - (intOf y + m).toNat)
      case atStart => exact ⟨0, by omega, by simp, by rw [HS0.out]; exact HOs.out, HSr.out⟩
      case round =>
        obtain ⟨i, hi, rfl, hO, hSk⟩ := hrel
        by_cases him : i < 2 * m
        · have him' : (i : Int) - m < (m : Int) := by omega
          have u2 : IntKind.i64.wrap ((i : Int) - m + 1) = (i : Int) - m + 1 := IntWalk.i64_in _ (by omega)
          obtain ⟨hQ, hA, hM⟩ := HRD.out s i hlt him
          have hll := HLS.out s (R s) i
          have hlr := HLR.out s
          have h216 : s * (2 * m) ≤ 4 * 54 := Nat.mul_le_mul (by omega) (by omega)
          have hnx := HS1.out s (R s) i
          generalize hL2 : SD s (R s) (i + 1) = L2 at *
          have HL2 := Lib.hid hL2
          clear hL2
          generalize SD s (R s) i = L1 at *
          have hll' : L1.length ≤ 1100 := by omega
          generalize PD s i = p at *
          obtain ⟨x, y⟩ := p
          simp only at hM
          generalize (dirD m s i).1 = dx at *
          generalize (dirD m s i).2 = dy at *
          generalize alX dx dy r = ax at *
          generalize alY dx dy r = ay at *
          have HQ := Lib.hid hQ; have HA := Lib.hid hA; have HM := Lib.hid hM; have HNX := Lib.hid hnx; have HO := Lib.hid hO
          obtain ⟨c1, c2, c3⟩ := hP1.since hSk
          have HP1 := Lib.hid hP1
          have HSK := Lib.hid hSk
          clear hQ hA hM hnx hO hP1 hSk hll hlr h216
          go_upto_region 9 with fail
          refine wp_named fun wa hwa => ?_
          obtain rfl := hwa
          go_cut [9] (fun z wx => ∃ q : Nat, z = .pointer (some ⟨q, 0, none⟩) ∧ wa.heap.size ≤ q ∧ Since wa wx ∧ Row wx q 2 (Pf x y))
          case first =>
            (refine wp_named fun wr7 hwr7 => ?_; go_region_held3 (fun w' => (∀ b o, b < wr7.heap.size → w'.cell? ⟨b, o, none⟩ = wr7.cell? ⟨b, o, none⟩) ∧ (∀ b o, b < wr7.heap.size → w'.frozen? ⟨b, o, none⟩ = wr7.frozen? ⟨b, o, none⟩) ∧ (∀ k, k < wr7.heap.size → k < w'.heap.size) ∧ Below wr7.heap.size wr7 w') ((subst hwr7; (repeat (with_reducible (refine since_put ?_ ?_ _); rotate_left; focus (first | (simp; done) | (simp; omega) | omega))); first | with_reducible assumption | (refine since_step (by with_reducible assumption) ?_; first | with_reducible assumption | ((repeat (first | with_reducible (exact Since.refl _) | with_reducible assumption | with_reducible (refine Since.drew ?_) | with_reducible (refine Since.drewN ?_ _) | with_reducible (refine Since.alloc ?_ _) | (with_reducible (refine Since.setCell ?_ ?_ _); rotate_left; focus (first | (simp; done) | (simp; omega) | omega)))); done)) | (refine since_step (Since.refl _) ?_; first | with_reducible assumption | ((repeat (first | with_reducible (exact Since.refl _) | with_reducible assumption | with_reducible (refine Since.drew ?_) | with_reducible (refine Since.drewN ?_ _) | with_reducible (refine Since.alloc ?_ _) | (with_reducible (refine Since.setCell ?_ ?_ _); rotate_left; focus (first | (simp; done) | (simp; omega) | omega)) | (with_reducible (refine Since.trans ?_ (by with_reducible assumption))))); done)))) (first | (go_at_call 77; (with_reducible refine (HQ.out _).mono ?_); rintro e w8 ⟨rfl, hS8⟩; have hT8 := hS8; obtain ⟨hc8, hf8, hz8, hb8⟩ := hT8; have hZ8 := hS8.below.size; (try simp at hZ8); (try have hq8 := hz8 wa.heap.size (by first | with_reducible assumption | (simp; done) | (simp; omega)))) | (go_at_call 35; (with_reducible refine (HA.out _).mono ?_); rintro e w8 ⟨rfl, hS8⟩; have hT8 := hS8; obtain ⟨hc8, hf8, hz8, hb8⟩ := hT8; have hZ8 := hS8.below.size; (try simp at hZ8); (try have hq8 := hz8 wa.heap.size (by first | with_reducible assumption | (simp; done) | (simp; omega)))) | (go_at_call 28; (with_reducible refine (HM.out _).mono ?_); rintro e w8 ⟨rfl, hS8⟩; have hT8 := hS8; obtain ⟨hc8, hf8, hz8, hb8⟩ := hT8; have hZ8 := hS8.below.size; (try simp at hZ8); (try have hq8 := hz8 wa.heap.size (by first | with_reducible assumption | (simp; done) | (simp; omega))))); all_goals (rename_i hHeld; have hR7 : Since wr7 _ := hHeld; obtain ⟨hcR7, hfR7, hzR7, hbR7⟩ := hHeld; subst hwr7))
            all_goals (go_wp2_with fail)
            all_goals go_meet
            all_goals refine ⟨_, rfl, ?_, ?_, ?_⟩
            any_goals ((show _ ≤ _); first | omega | (simp; omega))
            any_goals ((show Since _ _); (repeat (first | with_reducible (exact Since.refl _) | with_reducible assumption | with_reducible (refine Since.drew ?_) | with_reducible (refine Since.drewN ?_ _) | with_reducible (refine Since.alloc ?_ _) | (with_reducible (refine Since.setCell ?_ ?_ _); rotate_left; focus (first | (simp; done) | (simp; omega) | omega)) | (with_reducible (refine Since.trans ?_ (by with_reducible assumption))))); done)
            all_goals (repeat (first | with_reducible assumption | (with_reducible (refine prow _ _ ?_ _ x y); focus (first | with_reducible rfl | (simp; done))) | (with_reducible (refine prow _ _ ?_ _ 0 0); focus (first | with_reducible rfl | (simp; done))) | with_reducible (refine pput0 ?_ x y) | with_reducible (refine Row.drew ?_) | with_reducible (refine Row.alloc ?_ _) | with_reducible (refine Row.since ?_ (by with_reducible assumption))))
          obtain ⟨q, rfl, hq, hSa, rB⟩ := hcut
          obtain ⟨b1, b2, b3⟩ := pcells rB
          have hO5 := HO.out.since hSa
          obtain ⟨A, c, rfl, hc, hr⟩ := hO5.rd (by omega) ptL_len
          obtain ⟨k, hk⟩ : ∃ k, k = L1.length := ⟨_, rfl⟩
          have HK := Lib.hid hk
          rw [← hk] at hc hO5 ⊢
          have hll2 : k ≤ 1100 := by omega
          have HO5 := Lib.hid hO5
          have HSA := Lib.hid (HSK.out.trans hSa)
          clear hO5 HO hSa c1 c2 c3 HQ HA HM HSK hq HSr HOs
          go_upto_region 10 with fail
          go_cut [44] (fun z wx => z = .bool (lastNe L1 ⟨x, y⟩) ∧ wx = wc.drew)
          case first =>
            cases hg : L1.getLast? with
            | none =>
              have h0 : L1 = [] := by simpa using hg
              have hk0 : k = 0 := by rw [hk, h0]; rfl
              have e0 : lastNe L1 ⟨x, y⟩ = true := by rw [h0]; rfl
              have E0 := Lib.hid e0
              have e1 : ((k : Int) == 0) = true := by simp [hk0]
              have e2 : (k : Int) = 0 := by omega
              clear e0 hr hk h0 hk0 hg hll' hll2
              go_region
              all_goals (go_wp2_with fail)
              all_goals go_meet
              all_goals exact ⟨by rw [E0.out], rfl⟩
            | some l =>
              have hm : 0 < L1.length := by
                rcases Nat.eq_zero_or_pos L1.length with h | h
                · rw [List.length_eq_zero_iff] at h; rw [h] at hg; simp at hg
                · exact h
              have hget : L1[L1.length - 1]? = some l := by rw [← List.getLast?_eq_getElem?]; exact hg
              have e0 : lastNe L1 ⟨x, y⟩ = !(l.x == x && l.y == y) := by unfold lastNe; rw [hg]
              have E0 := Lib.hid e0
              obtain ⟨g, go', rfl, hgb, hcell⟩ := hr hm
              have l1 := hcell _ _ hget 0 (by omega)
              have l2 := hcell _ _ hget 1 (by omega)
              simp only [ptL, List.getD_cons_succ, List.getD_cons_zero, Nat.add_zero] at l1 l2
              obtain ⟨lx, ly⟩ := l
              simp only at l1 l2 E0
              rw [← hk] at hm l1 l2
              have q1 : IntKind.i64.wrap ((k : Int) - 1) = (k : Int) - 1 := IntWalk.i64_in _ (by omega)
              have q2 : (0 : Int) ≤ (k : Int) - 1 := by omega
              have q3 : ((k : Int) - 1).toNat = k - 1 := by omega
              have q4 : (k : Int) - 1 < (k : Int) := by omega
              have q5 : (1 : Int) ≤ (k : Int) := by omega
              have q6 : ((k : Int) == 0) = false := by simp; omega
              have q8 : (k : Int) ≠ 0 := by omega
              clear e0 hcell hget hg hr hk hll' hll2
              by_cases e1 : lx = x
              · by_cases e2 : ly = y
                · subst e1 e2
                  go_region
                  all_goals (go_wp2_with fail)
                  all_goals go_meet
                  all_goals exact ⟨by rw [E0.out]; simp, rfl⟩
                · subst e1
                  have e3 : (ly == y) = false := by simp [e2]
                  go_region
                  all_goals (go_wp2_with fail)
                  all_goals go_meet
                  all_goals exact ⟨by rw [E0.out]; simp [e3], rfl⟩
              · have e3 : (lx == x) = false := by simp [e1]
                go_region
                all_goals (go_wp2_with fail)
                all_goals go_meet
                all_goals exact ⟨by rw [E0.out]; simp [e3], rfl⟩
          obtain ⟨hz, hw⟩ := hcut
          subst hz hw
          cases hln : lastNe L1 ⟨x, y⟩
          · have he : L2 = L1 := by rw [HNX.out, addP_eq, hln]; rfl
            have HE := Lib.hid he
            clear he hr hk
            go_wp2_with fail
            go_roundw
            case rel => exact ⟨i + 1, by omega, by first | go_num | exact congrArg (Value.int IntKind.i64) (by omega), by rw [HL2.out, HE.out]; exact HO5.out, HSA.out.drew⟩
            case measure => simp [intOf]; omega
          · have he : L2 = L1 ++ [⟨x, y⟩] := by rw [HNX.out, addP_eq, hln]; rfl
            have HE := Lib.hid he
            clear he hr
            obtain rfl := hk
            go_wp2_with (at_builtin; refine wpList_append_g rfl _ _ 49 34 rfl (by omega) ptL_len ptL_one 16 Try.underlying49 infoPt w1.heap.size _ L1 rfl (OwnG.alloc (show OwnG 34 2 ptL wc.drew w1.heap.size (.slice A L1.length c) L1 from HO5.out) _) _ _ 1 [⟨x, y⟩] rfl (pt_one wc.drew _ rfl _ ⟨x, y⟩) (by simp only [List.length_cons, List.length_nil]; omega) (by simp only [List.length_cons, List.length_nil, maxLen]; omega) (by have := HSA.out.below.size; simp; omega) ?_; intro v7 w7 hO7 hg7 hb7)
            replace hg7 : (wc.drew.alloc (.cells #[.int .i64 x, .int .i64 y] 34)).grownBy w7 (Value.slice A L1.length c).ownBlock := hg7
            have hS7 : Since w1 w7 := since_grown ((HSA.out.drew).alloc _) hg7 (fun k e => (hb7 k e).1)
            go_roundw
            case rel => exact ⟨i + 1, by omega, by first | go_num | exact congrArg (Value.int IntKind.i64) (by omega), by rw [HL2.out, HE.out]; exact hO7, hS7⟩
            case measure => simp [intOf]; omega
        · obtain rfl : i = 2 * m := by omega
          have e := HS.out s
          have E := Lib.hid e
          have d : decide (((2 * m : Nat) : Int) - (m : Int) < (m : Int)) = false := by simp; omega
          clear e
          go_wp2_with fail
          go_roundw
          case rel => exact ⟨s + 1, by omega, by go_num, by rw [E.out]; exact hO, hSk⟩
          case measure => simp [intOf]; omega
    · obtain rfl : s = 4 := by omega
      have hln : (R 4).length ≤ 1000 := by
        have h1 := HLR.out 4
        omega
      clear HRD HLR HLS HZ HS HS0 HS1
      generalize R 4 = L at *
      obtain ⟨A, c, rfl, hc, hrd⟩ := hO.rd (by omega) ptL_len
      have hT : Since w wr := hT1.trans hSr
      have hRD := rd_close hrd
      have HRD := Lib.hid hRD
      have hcl := closeD_len L
      obtain ⟨n, hn⟩ : ∃ n, n = L.length := ⟨_, rfl⟩
      have HN := Lib.hid hn
      have u1 : IntKind.i64.wrap ((n : Int) - 1) = (n : Int) - 1 := IntWalk.i64_in _ (by omega)
      rw [← hn] at hc hln ⊢
      clear hO hRD hcl hn hP1 hT1
      go_upto_region 12 with fail
      go_cut [63] (fun z wx => z = .bool (closeB L) ∧ wx = wr.drew)
      case first =>
        have hn := HN.out
        by_cases hn1 : 1 < n
        · obtain ⟨g, go', rfl, hgb, hcell⟩ := hrd (by omega)
          obtain ⟨a, ha⟩ : ∃ a, L[0]? = some a := ⟨_, List.getElem?_eq_getElem (by omega)⟩
          obtain ⟨b, hb'⟩ : ∃ b, L[L.length - 1]? = some b := ⟨_, List.getElem?_eq_getElem (by omega)⟩
          have e0 := closeB_long (by omega) ha hb'
          have l1 := hcell _ _ ha 0 (by omega)
          have l2 := hcell _ _ ha 1 (by omega)
          have l3 := hcell _ _ hb' 0 (by omega)
          have l4 := hcell _ _ hb' 1 (by omega)
          simp only [ptL, List.getD_cons_succ, List.getD_cons_zero, Nat.add_zero, Nat.zero_mul] at l1 l2 l3 l4
          rw [← hn] at l3 l4
          obtain ⟨ax, ay⟩ := a
          obtain ⟨bx, bz⟩ := b
          simp only at l1 l2 l3 l4 e0
          have E0 := Lib.hid e0
          have q1 : decide ((0 : Int) < (n : Int) - 1) = true := by simp; omega
          have q7 : decide ((1 : Int) < (n : Int)) = true := by simp; omega
          have q8 : decide (1 < n) = true := by simp; omega
          have q2 : (0 : Int) ≤ (n : Int) - 1 := by omega
          have q3 : ((n : Int) - 1).toNat = n - 1 := by omega
          have q4 : (n : Int) - 1 < (n : Int) := by omega
          have q5 : (0 : Int) < (n : Int) := by omega
          have q6 : 0 < n := by omega
          clear e0 hcell ha hb' hrd hn hn1 hln hc
          by_cases e1 : bx = ax
          · by_cases e2 : bz = ay
            · subst e1 e2
              go_region
              all_goals (go_wp2_with fail)
              all_goals go_meet
              all_goals exact ⟨by rw [E0.out]; simp, rfl⟩
            · subst e1
              have e3 : (bz == ay) = false := by simp [e2]
              go_region
              all_goals (go_wp2_with fail)
              all_goals go_meet
              all_goals exact ⟨by rw [E0.out]; simp [e3], rfl⟩
          · have e3 : (bx == ax) = false := by simp [e1]
            go_region
            all_goals (go_wp2_with fail)
            all_goals go_meet
            all_goals exact ⟨by rw [E0.out]; simp [e3], rfl⟩
        · have e0 := closeB_short (L := L) (by omega)
          have E0 := Lib.hid e0
          have q1 : decide ((0 : Int) < (n : Int) - 1) = false := by simp; omega
          have q7 : decide ((1 : Int) < (n : Int)) = false := by simp; omega
          have q8 : decide (1 < n) = false := by simp; omega
          clear e0 hn hn1 hrd hln hc
          go_region
          all_goals (go_wp2_with fail)
          all_goals go_meet
          all_goals exact ⟨by rw [E0.out], rfl⟩
      obtain ⟨hz, hw⟩ := hcut
      subst hz hw
      cases hcl : closeB L
      · have e : closeD L = L := by unfold closeD; rw [hcl]; rfl
        rw [e] at HRD HD
        clear hrd hc hln
        go_wp2_with fail
        go_ret
        exact ⟨A, c, by rw [HD.out, ← HN.out]; rfl, by rw [HD.out]; exact HRD.out, hT.drew⟩
      · have e : closeD L = L.take (L.length - 1) := by unfold closeD; rw [hcl]; rfl
        have hn := HN.out
        have el : (closeD L).length = n - 1 := by rw [e, List.length_take]; omega
        have hn1 : 1 < n := by
          rcases Nat.lt_or_ge 1 n with h | h
          · exact h
          · rw [closeB_short (by omega)] at hcl; cases hcl
        have EL := Lib.hid el
        have q2 : (0 : Int) ≤ (n : Int) - 1 := by omega
        have q3 : ((n : Int) - 1).toNat = n - 1 := by omega
        have q4 : (n : Int) - 1 ≤ (c : Int) := by omega
        clear hn hrd hln e el hcl
        go_wp2_with fail
        go_ret
        exact ⟨A, c, by rw [HD.out, EL.out]; rfl, by rw [HD.out]; exact HRD.out, hT.drew⟩
end Go.Proofs.Ytckochcocflleaa
