/-
  Layer 17: the law SnapFlows, walked.
-/
import Derived.Test.YtcfghkphkmoikaaGreatSnFc
namespace Go.Proofs.YtcfghkphkmoikaaGreat
set_option maxRecDepth 100000
open Go.RowKit
set_option linter.unusedVariables false
set_option linter.unusedSimpArgs false
theorem rf_closed_n (A : Option Addr) (L : List Lq) (n c : Nat) (w : World) (hn : n = L.length) (h : RdG 4 lnL w w.heap.size A L) (hL : n ≤ 1000000) :
    Calls Tryz.prog 21 #[.slice A n c] w fun e w' => e = .returned (.bool (closedB L)) ∧ Since w w' := by
  subst hn
  exact rf_closed A L c w h hL
set_option maxRecDepth 1000000 in
theorem ixl17 (a b : Value) (w : World) : (Instr.index 50 (.agg #[a, b]) (.int .i64 0)).run Tryz.prog w = .ok a w ∧ (Instr.index 50 (.agg #[a, b]) (.int .i64 1)).run Tryz.prog w = .ok b w := ⟨by kernel_rfl, by kernel_rfl⟩
set_option maxRecDepth 1000000 in
theorem ixp17 (a b c d : Value) (w : World) : (Instr.index 52 (.agg #[a, b, c, d]) (.int .i64 0)).run Tryz.prog w = .ok (.agg #[a, b]) w ∧ (Instr.index 52 (.agg #[a, b, c, d]) (.int .i64 1)).run Tryz.prog w = .ok (.agg #[c, d]) w := ⟨by kernel_rfl, by kernel_rfl⟩
/-- An edge in a block of its own. -/
def EgAt (w : World) (b : Nat) (e : Eg) : Prop := w.cell? ⟨b, 0, none⟩ = some (.int .i64 e.a.x) ∧ w.cell? ⟨b, 1, none⟩ = some (.int .i64 e.a.y) ∧ w.cell? ⟨b, 2, none⟩ = some (.int .i64 e.b.x) ∧ w.cell? ⟨b, 3, none⟩ = some (.int .i64 e.b.y) ∧ w.cell? ⟨b, 4, none⟩ = some (.int .i64 e.m) ∧ w.cell? ⟨b, 5, none⟩ = some (.int .i64 e.n) ∧ b < w.heap.size
theorem eg_new (w : World) (b : Nat) (hb : b = w.heap.size) (e : Eg) (t : TypeId) : EgAt (w.alloc (.cells #[.int .i64 e.a.x, .int .i64 e.a.y, .int .i64 e.b.x, .int .i64 e.b.y, .int .i64 e.m, .int .i64 e.n] t)) b e := by
  subst hb
  exact ⟨by rw [World.cell?_alloc_new]; rfl, by rw [World.cell?_alloc_new]; rfl, by rw [World.cell?_alloc_new]; rfl, by rw [World.cell?_alloc_new]; rfl, by rw [World.cell?_alloc_new]; rfl, by rw [World.cell?_alloc_new]; rfl, by simp⟩
theorem EgAt.since {w w' : World} {b : Nat} {e : Eg} (h : EgAt w b e) (s : Since w w') : EgAt w' b e := by
  obtain ⟨a0, a1, a2, a3, a4, a5, a6⟩ := h
  exact ⟨(s.1 _ _ a6).trans a0, (s.1 _ _ a6).trans a1, (s.1 _ _ a6).trans a2, (s.1 _ _ a6).trans a3, (s.1 _ _ a6).trans a4, (s.1 _ _ a6).trans a5, s.2.2.1 _ a6⟩
theorem pq_cases (q p : Pq) : (q = p ∧ (q.x == p.x) = true ∧ (q.y == p.y) = true) ∨ (q ≠ p ∧ (q.x == p.x) = true ∧ (q.y == p.y) = false) ∨ (q ≠ p ∧ (q.x == p.x) = false) := by
  cases q; cases p
  rename_i a b c d
  by_cases h1 : a = c <;> by_cases h2 : b = d <;> simp [h1, h2]
set_option maxRecDepth 1000000 in
set_option maxHeartbeats 32000000 in
theorem walk_snapflows (A B : Option Addr) (c d : Nat) (L M : List Ln) (w : World) (hL : RdG 4 lnE w w.heap.size A L) (hM : RdG 4 lnE w w.heap.size B M) (hwL : ∀ l ∈ L, l.wf) (hwM : ∀ l ∈ M, l.wf) (hs : L.length + M.length ≤ 9223372036854775807) :
    Calls Tryz.prog 6 #[.agg #[.slice A L.length c, .slice B M.length d]] w fun e w' => e = .returned (.bool true) ∧ Since w w' := by
  have hwf : ∀ l ∈ L ++ M, l.wf := fun l hl => (List.mem_append.1 hl).elim (hwL l) (hwM l)
  obtain ⟨n, hn⟩ : ∃ n, n = L.length := ⟨_, rfl⟩
  obtain ⟨m, hm⟩ : ∃ m, m = M.length := ⟨_, rfl⟩
  have HN := Lib.hid hn
  have HM := Lib.hid hm
  rw [← hn, ← hm] at hs ⊢
  have HG := Lib.hid (fun w => law17_great A B n m c d hs w)
  have HA := Lib.hid (fun w b hb t u v => al17_box w b hb t u v)
  have HL := Lib.hid hL; have HR := Lib.hid hM; have HWF := Lib.hid hwf
  clear hL hM hwL hwM hwf hn hm
  by_cases h80 : 80 < n + m
  · have d1 : decide (80 < n + m) = true := by simp [h80]
    rw [d1] at HG
    clear HL HR HWF HN HM d1 hs
    go_enter Tryz.func6, Tryz.ntmps6
    go_wp2_with (first | (go_at_call 9; (with_reducible refine (HA.out _ _ rfl _ _ _).mono ?_); rintro e w1 ⟨rfl, s1, hS1⟩; have q0 := s1.c0; have q1 := s1.c1) | (go_at_call 14; (with_reducible refine (HG.out _).mono ?_); rintro e w2 ⟨rfl, hS2⟩))
    go_ret
    exact ⟨by first | rfl | simp, hS1.trans hS2⟩
  · have d1 : decide (80 < n + m) = false := by simp; omega
    rw [d1] at HG
    have hE := fun w1 (s : Since w w1) => sn_edges_80 A B n m c d L M w1 HN.out HM.out (by omega) (HL.out.on s) (HR.out.on s) HWF.out
    have HE := Lib.hid hE
    clear hE d1 hs
    go_enter Tryz.func6, Tryz.ntmps6
    go_upto_region 6 with (first | (go_at_call 9; (with_reducible refine (HA.out _ _ rfl _ _ _).mono ?_); rintro e w1 ⟨rfl, s1, hS1⟩; have q0 := s1.c0; have q1 := s1.c1; have q2 := s1.lt) | (go_at_call 14; (with_reducible refine (HG.out _).mono ?_); rintro e w2 ⟨rfl, hS2⟩; have s2 := s1.since hS2; have hT2 := hS1.trans hS2; clear q0 q1 q2 s1 hS1 hS2; have q0 := s2.c0; have q1 := s2.c1; have q2 := s2.lt) | (go_at_call 15; (with_reducible refine (HE.out _ hT2).mono ?_); rintro e w3 (⟨rfl, HB, hS3⟩ | ⟨D, k, cD, E, rfl, HK, hk, HQ, HGD, HED, hS3⟩) <;> (have s3 := s2.since hS3; have hT3 := hT2.trans hS3; clear q0 q1 q2 s2 hT2 hS3; have q0 := s3.c0; have q1 := s3.c1; have q2 := s3.lt)))
    · clear HA HG HE HL HR HWF
      go_wp2_with fail
      go_ret
      exact ⟨by first | rfl | simp, (by (repeat (first | with_reducible (exact Since.refl _) | with_reducible assumption | with_reducible (refine Since.drew ?_) | with_reducible (refine Since.drewN ?_ _) | with_reducible (refine Since.alloc ?_ _) | (with_reducible (refine Since.setCell ?_ ?_ _); rotate_left; focus (first | (simp; done) | (simp; omega) | omega)) | (with_reducible (refine Since.trans ?_ (by with_reducible assumption))))))⟩
    · clear HA HG HE
      go_wp2_with fail
      go_loopw [36] (fun y wr => ∃ kk : Int, (kk = 0 ∨ kk = 1 ∨ kk = 2) ∧ y = .int .i64 kk ∧ Since w3 wr) (fun y _ => 2 - (intOf y).toNat)
      case atStart => exact ⟨0, .inl rfl, rfl, Since.refl _⟩
      case round =>
        obtain ⟨kk, hkk, rfl, hSr⟩ := hrel
        clear q0 q1 q2 s3
        by_cases hk2 : kk = 2
        · subst hk2
          go_wp2_with fail
          go_ret
          exact ⟨by first | rfl | simp, hT3.trans hSr⟩
        · have hkk' : kk = 0 ∨ kk = 1 := by omega
          obtain ⟨Lk, Ak, nk, ck, hix, hnk, hn80, hRk, hfl⟩ : ∃ (Lk : List Ln) (Ak : Option Addr) (nk ck : Nat), (∀ w, (Instr.index 50 (.agg #[.slice A n c, .slice B m d]) (.int .i64 kk)).run Tryz.prog w = .ok (.slice Ak nk ck) w) ∧ nk = (Lk.map lqOf).length ∧ nk ≤ 1000000 ∧ RdG 4 lnE w w.heap.size Ak Lk ∧ (closedB (Lk.map lqOf) = true → ∀ p, flJ E (mk17 kk) p k = 0) := by
            rcases hkk' with rfl | rfl
            · exact ⟨L, A, n, c, fun w => (ixl17 _ _ w).1, by rw [List.length_map]; exact HN.out, by omega, HL.out, fun h p => by rw [HK.out]; exact flow_k HED.out HGD.out 0 h p⟩
            · exact ⟨M, B, m, d, fun w => (ixl17 _ _ w).2, by rw [List.length_map]; exact HM.out, by omega, HR.out, fun h p => by rw [HK.out]; exact flow_k HED.out HGD.out 1 h p⟩
          have hlt : kk < 2 := by omega
          have hge : (0 : Int) ≤ kk := by omega
          have u1 : IntKind.i64.wrap (kk + 1) = kk + 1 := IntWalk.i64_in _ (by omega)
          have hcl := fun w1 (s : Since w w1) => rf_closed_n Ak (Lk.map lqOf) nk ck w1 hnk (rdG_lq (hRk.on s)) hn80
          have HCL := Lib.hid hcl
          have HFL := Lib.hid hfl
          have HSR := Lib.hid hSr
          have HT := Lib.hid (hT3.trans hSr)
          clear hcl hfl hnk hn80 hRk hT3
          go_upto_if 42 with (go_at_call 21; (with_reducible refine (HCL.out _ HT.out).mono ?_); rintro e w4 ⟨rfl, hS4⟩)
          generalize closedB (Lk.map lqOf) = r at *
          clear HCL
          cases r
          · go_wp2_with fail
            go_roundw
            case rel => exact ⟨kk + 1, by omega, by go_num, hSr.trans hS4⟩
            case measure => simp only [intOf]; omega
          · have HZ := Lib.hid (HFL.out rfl)
            have HS4 := Lib.hid (hSr.trans hS4)
            clear HFL hS4 hSr hix
            go_wp2_with fail
            go_loopw [45] (fun y wm => ∃ j : Nat, j ≤ k ∧ y = .int .i64 (j : Int) ∧ Since w4 wm) (fun y _ => k - (intOf y).toNat)
            case atStart => exact ⟨0, by omega, rfl, Since.refl _⟩
            case round =>
              obtain ⟨j, hj, rfl, hSm⟩ := hrel
              by_cases hjk : j < k
              · have hjk' : (j : Int) < k := by omega
                have hkE := HK.out
                obtain ⟨b, o, rfl, hb, hcell⟩ := HQ.out (by omega)
                obtain ⟨y, hy⟩ : ∃ y, E[j]? = some y := ⟨_, List.getElem?_eq_getElem (by omega)⟩
                have hSw := HS4.out.trans hSm
                have c0 := (hSw.1 _ _ hb).trans (hcell j _ hy 0 (by omega))
                have c1 := (hSw.1 _ _ hb).trans (hcell j _ hy 1 (by omega))
                have c2 := (hSw.1 _ _ hb).trans (hcell j _ hy 2 (by omega))
                have c3 := (hSw.1 _ _ hb).trans (hcell j _ hy 3 (by omega))
                have c4 := (hSw.1 _ _ hb).trans (hcell j _ hy 4 (by omega))
                have c5 := (hSw.1 _ _ hb).trans (hcell j _ hy 5 (by omega))
                simp only [egL, List.getD_cons_succ, List.getD_cons_zero, Nat.add_zero] at c0 c1 c2 c3 c4 c5
                have hj0 : (0 : Int) ≤ j := by omega
                have v1 : IntKind.i64.wrap ((j : Int) + 1) = (j : Int) + 1 := IntWalk.i64_in _ (by omega)
                have HC := Lib.hid hcell
                have HSW := Lib.hid hSw
                have HSM := Lib.hid hSm
                have hEN := eg_new wr _ rfl y 47
                clear hcell hkE hy hSw hSm
                go_upto_region 15 with fail
                refine wp_named fun wz hwz => ?_
                have hSz : Since wr wz := by subst hwz; exact (Since.refl wr).alloc _
                have hPz : EgAt wz wr.heap.size y := by subst hwz; exact hEN
                clear hwz c0 c1 c2 c3 c4 c5 hEN
                have HSZ := Lib.hid (HSW.out.trans hSz)
                have HSV := Lib.hid (HSM.out.trans hSz)
                clear hSz HSW HSM
                generalize wr.heap.size = bz at *
                obtain ⟨c0, c1, c2, c3, c4, c5, c6⟩ := id hPz
                go_wp2_with fail
                clear c0 c1 c2 c3 c4 c5 c6 hPz
                go_loopw [54] (fun y wm => ∃ ii : Int, (ii = 0 ∨ ii = 1 ∨ ii = 2) ∧ y = .int .i64 ii ∧ Since wz wm) (fun y _ => 2 - (intOf y).toNat)
                case atStart => exact ⟨0, .inl rfl, rfl, Since.refl _⟩
                case round =>
                  obtain ⟨ii, hii, rfl, hSi⟩ := hrel
                  by_cases hi2 : ii = 2
                  · subst hi2
                    go_wp2_with fail
                    go_roundw
                    case rel => exact ⟨j + 1, by omega, by go_num, HSV.out.trans hSi⟩
                    case measure => simp only [intOf]; omega
                  · have hii' : ii = 0 ∨ ii = 1 := by omega
                    obtain ⟨p, hix⟩ : ∃ p : Pq, ∀ w, (Instr.index 52 (.agg #[.int .i64 y.a.x, .int .i64 y.a.y, .int .i64 y.b.x, .int .i64 y.b.y]) (.int .i64 ii)).run Tryz.prog w = .ok (.agg #[.int .i64 p.x, .int .i64 p.y]) w := by
                      rcases hii' with rfl | rfl
                      · exact ⟨y.a, fun w => (ixp17 _ _ _ _ w).1⟩
                      · exact ⟨y.b, fun w => (ixp17 _ _ _ _ w).2⟩
                    have hlt2 : ii < 2 := by omega
                    have hge2 : (0 : Int) ≤ ii := by omega
                    have u2 : IntKind.i64.wrap (ii + 1) = ii + 1 := IntWalk.i64_in _ (by omega)
                    have hPN := pt_new wr _ rfl p.x p.y 23
                    go_upto_region 20 with fail
                    refine wp_named fun wn hwn => ?_
                    have hSn : Since wr wn := by subst hwn; exact (Since.refl wr).alloc _
                    have hPn : PtAt wn wr.heap.size p.x p.y := by subst hwn; exact hPN
                    clear hwn hPN hix
                    have HSI := Lib.hid (hSi.trans hSn)
                    have HSN := Lib.hid (HSZ.out.trans (hSi.trans hSn))
                    clear hSi hSn
                    generalize wr.heap.size = bp at *
                    go_loopw [11, 59] (fun z y wi => ∃ i : Nat, i ≤ k ∧ y = .int .i64 (i : Int) ∧ z = .int .i64 (flJ E (mk17 kk) p i) ∧ Since wn wi) (fun _ y _ => k - (intOf y).toNat)
                    case atStart => exact ⟨0, by omega, rfl, rfl, Since.refl _⟩
                    case round =>
                      obtain ⟨i, hi, rfl, rfl, hSq⟩ := hrel
                      by_cases hik : i < k
                      · have hik' : (i : Int) < k := by omega
                        have hkE := HK.out
                        obtain ⟨x, hx⟩ : ∃ x, E[i]? = some x := ⟨_, List.getElem?_eq_getElem (by omega)⟩
                        have hSw := HSN.out.trans hSq
                        have c0 := (hSw.1 _ _ hb).trans (HC.out i _ hx 0 (by omega))
                        have c1 := (hSw.1 _ _ hb).trans (HC.out i _ hx 1 (by omega))
                        have c2 := (hSw.1 _ _ hb).trans (HC.out i _ hx 2 (by omega))
                        have c3 := (hSw.1 _ _ hb).trans (HC.out i _ hx 3 (by omega))
                        have c4 := (hSw.1 _ _ hb).trans (HC.out i _ hx 4 (by omega))
                        have c5 := (hSw.1 _ _ hb).trans (HC.out i _ hx 5 (by omega))
                        simp only [egL, List.getD_cons_succ, List.getD_cons_zero, Nat.add_zero] at c0 c1 c2 c3 c4 c5
                        have hi0 : (0 : Int) ≤ i := by omega
                        have v2 : IntKind.i64.wrap ((i : Int) + 1) = (i : Int) + 1 := IntWalk.i64_in _ (by omega)
                        have hst := flJ_step E (mk17 kk) p i x hx
                        have HST := Lib.hid hst
                        have hPq := hPn.since hSq
                        have HSQ := Lib.hid hSq
                        have hEN := eg_new wr _ rfl x 47
                        clear hst hx hkE hSw hSq
                        go_upto_region 22 with fail
                        refine wp_named fun wy hwy => ?_
                        have hSy : Since wr wy := by subst hwy; exact (Since.refl wr).alloc _
                        have hPy : EgAt wy wr.heap.size x := by subst hwy; exact hEN
                        have hPp := hPq.since hSy
                        clear hwy c0 c1 c2 c3 c4 c5 hEN hPq
                        have HSY := Lib.hid (HSQ.out.trans hSy)
                        clear hSy HSQ
                        generalize wr.heap.size = be at *
                        obtain ⟨c0, c1, c2, c3, c4, c5, c6⟩ := id hPy
                        obtain ⟨p0, p1, p2⟩ := id hPp
                        clear hPy hPp
                        generalize flJ E (mk17 kk) p i = qq at *
                        obtain ⟨mm, hmm⟩ : ∃ mm, mm = mk17 kk x := ⟨_, rfl⟩
                        obtain ⟨q1, hq1⟩ : ∃ q1, IntKind.i64.wrap (qq + mm) = q1 := ⟨_, rfl⟩
                        obtain ⟨q2, hq2⟩ : ∃ q2, IntKind.i64.wrap (qq - mm) = q2 := ⟨_, rfl⟩
                        obtain ⟨q3, hq3⟩ : ∃ q3, IntKind.i64.wrap (q1 - mm) = q3 := ⟨_, rfl⟩
                        have hst := HST.out
                        rw [← hmm, hq1] at hst
                        have hkc : (kk = 0 ∧ x.m = mm) ∨ (kk = 1 ∧ x.n = mm) := by
                          rw [hmm]; unfold mk17
                          rcases hkk' with h | h
                          · exact .inl ⟨h, by rw [if_pos h]⟩
                          · exact .inr ⟨h, by rw [if_neg (by omega)]⟩
                        clear HST hmm
                        rcases pq_cases x.a p with ⟨h1, e1, e2⟩ | ⟨h1, e1, e2⟩ | ⟨h1, e1⟩ <;> rcases pq_cases x.b p with ⟨h2, f1, f2⟩ | ⟨h2, f1, f2⟩ | ⟨h2, f1⟩
                        all_goals (first | rw [if_pos h2, if_pos h1] at hst | rw [if_pos h2, if_neg h1] at hst | rw [if_neg h2, if_pos h1] at hst | rw [if_neg h2, if_neg h1] at hst)
                        all_goals (try rw [hq3] at hst)
                        all_goals (try rw [hq2] at hst)
                        all_goals clear h1 h2
                        all_goals rcases hkc with ⟨rfl, hxm⟩ | ⟨rfl, hxm⟩
                        all_goals (first | rw [hxm] at c4 | rw [hxm] at c5)
                        all_goals have HST := Lib.hid hst
                        all_goals clear hst hxm
                        all_goals (go_wp2_with fail; go_roundw; (case rel => exact ⟨i + 1, by omega, by go_num, by rw [HST.out], HSY.out⟩); (case measure => (simp only [intOf]; omega)))
                      · obtain rfl : i = k := by omega
                        rw [HZ.out p]
                        go_wp2_with fail
                        go_roundw
                        case rel => exact ⟨ii + 1, by omega, by go_num, HSI.out.trans hSq⟩
                        case measure => simp only [intOf]; omega
              · obtain rfl : j = k := by omega
                go_wp2_with fail
                go_roundw
                case rel => exact ⟨kk + 1, by omega, by go_num, HS4.out.trans hSm⟩
                case measure => simp only [intOf]; omega
end Go.Proofs.YtcfghkphkmoikaaGreat
