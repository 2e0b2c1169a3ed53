/-
  Layer 12: the reference's visits of composite glyphs, where its visits are known.
-/
import Derived.Test.YtcjjcjpkmjbfkaaExL
import Derived.Test.YtcjjcjpkmjbfkaaMhK
namespace Go.Proofs.Ytcjjcjpkmjbfkaa
open Go.RowKit Go.ChangeShapes Go.WideShapes Go.Deep
set_option linter.unusedVariables false
set_option linter.unusedSimpArgs false

theorem goodO_no {P : Pt8} {LL : List (List Kt)} {C : List Kt} {K : Kt} (hC : C ∈ LL) (hK : K ∈ C) (h : decide (goodK (mvK P K)) = false) : goodO P LL = false := by
  cases hg : goodO P LL
  · rfl
  · unfold goodO at hg
    rw [List.all_eq_true] at hg
    have h1 := hg C hC
    unfold goodL at h1
    rw [List.all_eq_true] at h1
    have h2 := h1 K hK
    rw [h] at h2
    cases h2
theorem mv_snoc (P : Pt8) {C : List Kt} {k : Nat} (hk : k < C.length) : (C.take (k + 1)).map (mvK P) = (C.take k).map (mvK P) ++ [mvK P C[k]] := by
  rw [List.take_succ_eq_append_getElem hk, List.map_append]; rfl
/-- Behind i parts: all is well so far, or something failed. -/
def StR12 (step : Int → Nat → St12) (RR : St12) (Ps : List Pt8) (OUT : List (List Kt)) (i : Nat) (V E : Int) : Prop :=
  (E = 0 ∧ ∃ vn : Nat, V = (vn : Int) ∧ vn ≤ 4096 ∧ RR = parts12 step (Ps.drop i) OUT vn) ∨ (E ≠ 0 ∧ RR.e = E)
set_option maxRecDepth 1000000 in
set_option maxHeartbeats 64000000 in
theorem rf_visit_k2 (q : Nat) (A : Option Addr) (N c : Nat) (G : List (List Int)) (f : Nat) (d : Int) (hd : d = 16 - (f : Int)) (hf : f ≤ 16) (hbG : ∀ b, b ∈ G → Bytes b) (hlG : ∀ b, b ∈ G → b.length ≤ 140737488355328) (hN : N = G.length) (hN63 : N ≤ 9223372036854775807)
    (HV : ∀ (id : Int) (v : Nat) (w2 : World), v ≤ 4096 → BoxX w2 q (RdrF A N c (v : Int) 0) → RdBL w2 q A G → Calls Try.prog 22 #[.pointer (some ⟨q, 0, none⟩), .int .i64 id, .int .i64 (d + 1)] w2 (RvP q A N c (vis12 G f id v) w2))
    (id : Int) (v : Nat) (w : World) (hR : BoxX w q (RdrF A N c (v : Int) 0)) (hG : RdBL w q A G) (h0 : 0 ≤ id) (h1 : id < (N : Int)) (hv : v + 1 ≤ 4096) (hkd : kd12 (G.getD id.toNat []) = 2) :
    Calls Try.prog 22 #[.pointer (some ⟨q, 0, none⟩), .int .i64 id, .int .i64 d] w (RvP q A N c (fin12 (body12 (vis12 G f) (G.getD id.toNat []) (v + 1))) w) := by
  obtain ⟨k, rfl⟩ : ∃ k : Nat, id = (k : Int) := ⟨id.toNat, by omega⟩
  have hkG : k < G.length := by omega
  have hGk : G[k]? = some G[k] := List.getElem?_eq_getElem hkG
  have hLb := hbG _ (List.getElem_mem hkG)
  have hLl := hlG _ (List.getElem_mem hkG)
  have e1 : G.getD (k : Int).toNat [] = G[k] := by rw [Int.toNat_natCast, List.getD_eq_getElem?_getD, hGk]; rfl
  rw [e1] at hkd ⊢
  clear e1
  obtain ⟨b, o, A', c', rfl, hb, hcell, hlc, hK⟩ := hG.row hGk
  generalize G[k] = L at *
  obtain ⟨n', hn'⟩ : ∃ n', n' = L.length := ⟨_, rfl⟩
  rw [← hn'] at hcell hlc hLl
  have hq := hR.lt
  have hkN : (k : Int) < (N : Int) := h1
  have hw1 : IntKind.i64.wrap ((v : Int) + 1) = ((v + 1 : Nat) : Int) := by rw [IntKind.wrap_i64]; omega
  have hdI : IntKind.i64.wrap (d + 1) = d + 1 := by rw [IntKind.wrap_i64]; omega
  have hdc : ¬ (16 : Int) < d := by omega
  have hNI : (N : Int) ≤ 9223372036854775807 := by omega
  have hkd0 : decide ((k : Int) < 0) = false := by simp
  have hkN2 : ¬ (N : Int) ≤ (k : Int) := by omega
  have hv4 : ¬ (4096 : Int) < ((v + 1 : Nat) : Int) := by omega
  obtain ⟨c0, c1, c2, f1, f2, _⟩ := rdr_cells hR.row
  have hB1 := Lib.hid (hR.at ((v + 1 : Nat) : Int))
  have hN1 := Lib.hid ((Nigh.refl q w).set 1 (.int .i64 ((v + 1 : Nat) : Int)))
  have hbq : ¬ b = q := by omega
  have hqb : ¬ q = b := by omega
  have hG1 := Lib.hid (hG.nigh hN1.out (Nat.le_refl _) hq)
  have hK1 := Lib.hid (show RdB (w.setCell ⟨q, 1, none⟩ (.int .i64 ((v + 1 : Nat) : Int))) q A' L from by
    refine hK.keep fun b' o' h => ?_
    rw [cell_set, if_neg (fun e => by have := e.1; omega)])
  have HKD := Lib.hid (fun (w2 : World) (h2 : RdB w2 w2.heap.size A' L) => rf_kind A' n' c' L w2 h2 hn' hLl)
  rw [hkd] at HKD
  have hbw : b < w.heap.size := by omega
  have HKN := Lib.hid (fun (Au : Option Addr) (cu : Nat) (LL : List (List Kt)) (w2 : World) (h2 : RdOL w2 w2.heap.size Au LL) (hn : LL.length ≤ 1000000) (hm : ∀ L, L ∈ LL → L.length ≤ 1000000) => rf_knotsG Au cu LL w2 h2 hn hm)
  unfold KnotsOut at HKN
  have HCR := Lib.hid (show ∀ w2 : World, RdB w2 w2.heap.size A' L → Calls Try.prog 38 #[.slice A' n' c'] w2 (RdPost8 (fnL L) L.length w2) from fun w2 h2 => by
    rw [← hn']
    exact rf_read8 A' n' c' (fnL L) w2 (by rw [hn']; exact rdb_rd h2) (by rw [hn']; exact bytes_fn hLb) hLl hlc)
  unfold RdPost8 at HCR
  have hbd : body12 (vis12 G f) L (v + 1) = if (rdAns8 (fnL L) L.length).e ≠ 0 then ⟨[], v + 1, (rdAns8 (fnL L) L.length).e⟩ else parts12 (vis12 G f) (rdAns8 (fnL L) L.length).L [] (v + 1) := by
    rcases kd_cases L with ⟨hk, hl⟩ | ⟨hk, hl, hl2⟩ | ⟨hk, hl, hl2⟩
    · rw [hk] at hkd; cases hkd
    · rw [hk] at hkd; cases hkd
    · unfold body12; rw [if_neg hl, if_pos hl2]
  rw [hbd]
  have HOK := Lib.hid (fun (h : (rdAns8 (fnL L) L.length).e = 0) => ans_ok (bytes_fn hLb) h)
  have HNO := Lib.hid (fun (h : (rdAns8 (fnL L) L.length).e ≠ 0) => (ans_no h).1)
  generalize (rdAns8 (fnL L) L.length).m = mm at *
  generalize (rdAns8 (fnL L) L.length).s = ss at *
  generalize (rdAns8 (fnL L) L.length).e = EE at *
  generalize (rdAns8 (fnL L) L.length).L = Ps at *
  have HF0 := Lib.hid (fun (w2 : World) (h2 : BoxX w2 q (RdrF (some ⟨b, o, none⟩) N c ((v + 1 : Nat) : Int) 0)) => rf_fail0 q (some ⟨b, o, none⟩) N c ((v + 1 : Nat) : Int) w2 h2)
  have HFX := Lib.hid (fun (x V : Int) (w2 : World) (h2 : BoxX w2 q (RdrF (some ⟨b, o, none⟩) N c V 0)) => rf_fail q (some ⟨b, o, none⟩) N c V 0 x w2 h2)
  simp only [if_true, eq_self] at HFX
  have HV1 := Lib.hid hv
  have HBG := Lib.hid hbG
  have HVV := Lib.hid HV
  have HQ := Lib.hid hq
  obtain ⟨V1, hV1⟩ : ∃ V1, V1 = ((v + 1 : Nat) : Int) := ⟨_, rfl⟩
  rw [← hV1] at hw1 hv4 hB1 hN1 hK1 hG1 HF0
  have HV2 := Lib.hid hV1
  clear hV1 hd hf hGk hkG hbG hlG hN hR hG hK h0 h1 hv HV hbd hkd hn' hLb hq
  by_cases hE : EE = 0
  · subst hE
    rw [if_neg (by simp)]
    obtain ⟨_, hPl, hPok, _⟩ := HOK.out rfl
    obtain ⟨RR, hRR⟩ : ∃ RR, RR = parts12 (vis12 G f) Ps [] (v + 1) := ⟨_, rfl⟩
    rw [← hRR]
    have HRX := Lib.hid hRR
    obtain ⟨M, hM⟩ : ∃ M, M = Ps.length := ⟨_, rfl⟩
    rw [← hM] at HCR hPl
    have HM := Lib.hid hM
    have HPO := Lib.hid hPok
    have hMI : (M : Int) ≤ 64 := by omega
    clear HNO HOK hRR hM hPok
    go_enter Try.func22, Try.ntmps22
    go_wp2_with (first | (go_at_call 36; (with_reducible refine (HKD.out _ (hK1.out.more (Nat.le_of_lt hB1.out.lt))).mono ?_); rintro e w2 ⟨rfl, hS2⟩; have hB2 := hB1.out.since hS2; have hK2 := (hK1.out.keep (fun b' o' h => hS2.1 b' o' (Nat.lt_of_lt_of_le h (Nat.le_of_lt hB1.out.lt)))).more (Nat.le_of_lt hB2.lt)) | (go_at_call 38; (with_reducible refine (HCR.out _ hK2).mono ?_); rintro e w3 ⟨A3, c3, A4, c4, rfl, hO3, _, _, hS3⟩; have hB3 := hB2.since hS3) | (go_at_call 35; (with_reducible refine (HF0.out _ hB3).mono ?_); rintro e w4 ⟨rfl, hB4, hN4, hC4⟩))
    have HN03 := Lib.hid ((hN1.out.since hS2).since hS3)
    have hqw2 : q < w3.heap.size := hB3.lt
    have HPT := Lib.hid (fun (i : Nat) (P : Pt8) (h : Ps[i]? = some P) => part_at hO3 hB3 h)
    have HGG := Lib.hid (show RdBL w3 q (some ⟨b, o, none⟩) G from (hG1.out.keep (fun b' o' h => hS2.1 b' o' (Nat.lt_trans h hB1.out.lt))).keep (fun b' o' h => hS3.1 b' o' (Nat.lt_trans h hB2.lt)))
    clear HCR HF0 hO3 hB3 hK2 hB2 hC4 hK1 hG1 HKD
    go_loopw [7, 96] (fun u y wr => ∃ (i : Nat) (OUT : List (List Kt)) (V E : Int), i ≤ M ∧ y = .int .i64 (i : Int) ∧ OwnO wr w3.heap.size u OUT ∧ OUT.length ≤ 4096 * i ∧ Hid (∀ L, L ∈ OUT → L.length ≤ 4096) ∧ BoxX wr q (RdrF (some ⟨b, o, none⟩) N c V E) ∧ Nigh q w3 wr ∧ Hid (StR12 (vis12 G f) RR Ps OUT i V E)) (fun _ y _ => M - (intOf y).toNat)
    case atStart => exact ⟨0, [], V1, 0, by omega, rfl, OwnO.nil _ _, by simp, Lib.hid (by simp), hB4, hN4, Lib.hid (.inl ⟨rfl, v + 1, HV2.out, HV1.out, by rw [List.drop_zero]; exact HRX.out⟩)⟩
    case round =>
      obtain ⟨i, OUT, V, E, hi, rfl, hO, hOl, HOL, hB, hN, HST⟩ := hrel
      clear hB4 hN4
      by_cases hiM : i < M
      · have hiI : (i : Int) < (M : Int) := by omega
        have hiL : i < Ps.length := by rw [← HM.out]; exact hiM
        have hPi : Ps[i]? = some Ps[i] := List.getElem?_eq_getElem hiL
        have hPk := HPO.out _ (List.getElem_mem hiL)
        have HDR := Lib.hid (show Ps.drop i = Ps[i] :: Ps.drop (i + 1) from List.drop_eq_getElem_cons hiL)
        obtain ⟨bq, oq, rfl, hbq3, hbqq, k0, k1, k2, k3, k4, k5, k6⟩ := HPT.out i _ hPi
        have hcc : ∀ o', wr.cell? ⟨bq, o', none⟩ = w3.cell? ⟨bq, o', none⟩ := fun o' => by
          have e := hN.1.2 bq hbq3 hbqq
          simp only [World.cell?, e]
        rw [← hcc] at k0 k1 k2 k3 k4 k5 k6
        have hbqw := Nat.lt_of_lt_of_le hbq3 hN.1.1
        generalize Ps[i] = P at *
        have HPK := Lib.hid hPk
        clear hcc hPi hiL hPk
        have hqr := hB.lt
        obtain ⟨x0, x1, x2, x3, x4, x5⟩ := rdr_cells hB.row
        rcases HST.out with ⟨rfl, vn, rfl, hvn, hRi⟩ | ⟨hE0, hRE⟩
        · rw [HDR.out] at hRi
          have HRI := Lib.hid hRi
          have HVI := Lib.hid (fun (w4 : World) (h4 : Nigh q w3 w4) (hB4 : BoxX w4 q (RdrF (some ⟨b, o, none⟩) N c (vn : Int) 0)) => HVV.out P.g vn w4 hvn hB4 (HGG.out.nigh h4 (Nat.le_refl _) hqw2))
          unfold RvP at HVI
          have hfin := vis_fine HBG.out f P.g vn
          obtain ⟨R, hR⟩ : ∃ R, R = vis12 G f P.g vn := ⟨_, rfl⟩
          rw [← hR] at HVI hfin
          have HRV := Lib.hid hR
          clear hR hRi HST
          by_cases hRe : R.e = 0
          · obtain ⟨hf12, hfs, hfv⟩ := hfin hRe
            have HVJ := Lib.hid (fun (w4 : World) (h4 : Nigh q w3 w4) (hB4 : BoxX w4 q (RdrF (some ⟨b, o, none⟩) N c (vn : Int) 0)) => (HVI.out w4 h4 hB4).mono (show ∀ e w', _ → ∃ u, e = .returned u ∧ BoxX w' q (RdrF (some ⟨b, o, none⟩) N c (R.v : Int) 0) ∧ Nigh q w4 w' ∧ OwnO w' w4.heap.size u R.LL from fun e w' ⟨u, V', a1, a2, a3, a4, _⟩ => by
              obtain ⟨a5, a6⟩ := a4 hRe
              rw [hRe, a5] at a2
              exact ⟨u, a1, a2, a3, a6⟩))
            have HF1 := Lib.hid hf12
            have HF2 := Lib.hid hfs
            have hKl := len_sum hf12.2
            obtain ⟨K, hK⟩ : ∃ K, K = R.LL.length := ⟨_, rfl⟩
            have hK4 : K ≤ 4096 := by omega
            have hKI : (K : Int) ≤ 4096 := by omega
            have HKK := Lib.hid hK
            have HRE := Lib.hid hRe
            have hOlt := Lib.hid hOl
            clear hfin hf12 hfs hKl hK hRe HVI HVV HGG HPT hOl
            have hOown : Hid (∀ q', _ = some q' → q' < wr.heap.size) := Lib.hid (fun q' e => by
              obtain ⟨hs, _, ho, _⟩ := hO
              exact (ho.lt e).2)
            go_wp2_with (go_at_call 22; (with_reducible refine (HVJ.out _ (hN.since ((Since.refl wr).alloc _)) (hB.since ((Since.refl wr).alloc _))).mono ?_); rintro e w5 ⟨u5, rfl, hB5, hN5, hU5⟩; obtain ⟨A5, c5, rfl, hc5, hr5⟩ := hU5.rd; rw [← HKK.out] at hU5 ⊢; have hP5 := (prt_new wr wr.heap.size rfl 44 P.g P.x P.y P.m0 P.m1 P.m2 P.m3).near hN5 (by omega); have hO5 := (hO.since ((Since.refl wr).alloc _)).nigh hN5 hqw2; have hN25 := (hN.since ((Since.refl wr).alloc _)).trans hN5; have hbp5 := hP5.2.2)
            have hsz4 : (wr.alloc (.cells #[.int .i64 P.g, .int .i64 P.x, .int .i64 P.y, .int .i64 P.m0, .int .i64 P.m1, .int .i64 P.m2, .int .i64 P.m3] 44)).heap.size = wr.heap.size + 1 := by simp
            rw [hsz4] at hU5
            have hqb : q < wr.heap.size := hqr
            have hb2 : w3.heap.size ≤ wr.heap.size := hN.1.1
            clear hsz4 hr5 hc5 hB hN hO hN5 x0 x1 x2 x3 x4 x5 k0 k1 k2 k3 k4 k5 k6 hbqw HVJ hqr
            obtain ⟨bp, hbp⟩ : ∃ bp, bp = wr.heap.size := ⟨_, rfl⟩
            rw [← hbp] at hP5 hU5 hqb hb2 hOown hbp5 ⊢
            clear hbp
            go_loopw [7, 112] (fun v y wx => ∃ (j : Nat) (OUT' : List (List Kt)), j ≤ K ∧ y = .int .i64 (j : Int) ∧ OwnO wx w3.heap.size v OUT' ∧ Hid (OUT' = OUT ++ (R.LL.take j).map (List.map (mvK P))) ∧ BoxX wx q (RdrF (some ⟨b, o, none⟩) N c (R.v : Int) 0) ∧ Hid (goodO P (R.LL.take j) = true) ∧ Nigh q w3 wx ∧ Row wx bp 7 (PrF P.g P.x P.y P.m0 P.m1 P.m2 P.m3) ∧ Hid (∀ b, bp + 1 ≤ b → b < w5.heap.size → wx.heap[b]? = w5.heap[b]?) ∧ Hid (∀ q', v.ownBlock = some q' → q' < bp ∨ w5.heap.size ≤ q') ∧ w5.heap.size ≤ wx.heap.size) (fun _ y _ => K - (intOf y).toNat)
            case atStart => exact ⟨0, OUT, by omega, by first | rfl | simp, hO5, Lib.hid (by simp), hB5, Lib.hid (by simp [goodO]), hN25, hP5, Lib.hid (fun b _ _ => rfl), Lib.hid (fun q' e => .inl (hOown.out q' e)), Nat.le_refl _⟩
            case round =>
              obtain ⟨j, OUT', hj, rfl, hOx, HOX, hBx, HGO, hNx, hPx, HKB, HAP, hsz⟩ := hrel
              clear hO5 hB5 hN25 hP5 hOown
              by_cases hjK : j < K
              · have hjI : (j : Int) < (K : Int) := by omega
                have hjL : j < R.LL.length := by rw [← HKK.out]; exact hjK
                have hCj : R.LL[j]? = some R.LL[j] := List.getElem?_eq_getElem hjL
                have hCm : R.LL[j] ∈ R.LL := List.getElem_mem hjL
                have hCg := HF1.out.1 _ hCm
                have hCl := mem_sum hCm
                have hCl2 := HF2.out
                have HCJ := Lib.hid hCj
                have HCM := Lib.hid hCm
                have hUx : OwnO wr (bp + 1) (.slice A5 K c5) R.LL := hU5.keepB (fun b h1 h2 => HKB.out b h1 h2)
                generalize R.LL[j] = C at *
                obtain ⟨g5, A6, c6, rfl, hcell5, hK6, hg5⟩ := ownO_at hUx hCj
                obtain ⟨n6, hn6⟩ : ∃ n6, n6 = C.length := ⟨_, rfl⟩
                rw [← hn6] at hcell5 hK6 hCl
                have hCr := Lib.hid (ownK_rd hK6)
                have HN6 := Lib.hid hn6
                have HCG := Lib.hid hCg
                have hq2 : q < w3.heap.size := hqw2
                have hOLn : OUT'.length ≤ 1000000 := by
                  have h1 := HOX.out
                  have h2 := hOlt.out
                  rw [h1, List.length_append, List.length_map, List.length_take]
                  omega
                have hw5z : bp < w5.heap.size := hbp5
                have hn6l : n6 ≤ 4096 := by omega
                have hn6I : (n6 : Int) ≤ 4096 := by omega
                obtain ⟨bd, hbd⟩ : ∃ bd, bd = wr.heap.size := ⟨_, rfl⟩
                have hbd1 : wr.heap.size ≤ bd := by omega
                have hbd2 : bd ≤ wr.heap.size := by omega
                clear hCj hCm hCl hCl2 hjL hCg hn6 hbd hK6 hUx
                go_wp2_with fail
                go_loopw [18, 118] (fun v y wx => ∃ (k : Nat), k ≤ n6 ∧ y = .int .i64 (k : Int) ∧ OwnK wx bd v ((C.take k).map (mvK P)) ∧ Since wr wx ∧ Hid (goodL P (C.take k) = true)) (fun _ y _ => n6 - (intOf y).toNat)
                case atStart => exact ⟨0, by omega, by first | rfl | simp, OwnG.nil _ _ _ _ _, Since.refl _, Lib.hid (by simp [goodL])⟩
                case round =>
                  obtain ⟨k, hk, rfl, hOk, hSk, HGK⟩ := hrel
                  by_cases hkn : k < n6
                  · have hkI : (k : Int) < (n6 : Int) := by omega
                    have hkL : k < C.length := by rw [← HN6.out]; exact hkn
                    have hCk : C[k]? = some C[k] := List.getElem?_eq_getElem hkL
                    have hKm : C[k] ∈ C := List.getElem_mem hkL
                    have hKg := HCG.out _ hKm
                    have hsn := goodL_snoc (P := P) hkL
                    have hms := mv_snoc P hkL
                    have HKM := Lib.hid hKm
                    have HOL2 := Lib.hid (show ((C.take k).map (mvK P)).length ≤ 4096 by rw [List.length_map, List.length_take]; omega)
                    obtain ⟨bk, ok, rfl, hbk, hck⟩ := hCr.out (by omega)
                    have c1 := (hSk.1 _ _ hbk).trans (hck k _ hCk 0 (by omega))
                    have c2 := (hSk.1 _ _ hbk).trans (hck k _ hCk 1 (by omega))
                    have c3 := (hSk.1 _ _ hbk).trans (hck k _ hCk 2 (by omega))
                    have hbkw := hSk.2.2.1 _ hbk
                    have hmv := fun w2 => rf_move P C[k].x C[k].y w2 HPK.out ⟨hKg.1, hKg.2.1⟩ hKg.2.2
                    have hgb := goodB_K P C[k]
                    have hmk : mvK P C[k] = ⟨mvX P C[k].x C[k].y, mvY P C[k].x C[k].y, C[k].o⟩ := rfl
                    clear hCk hck hKm hKg hCr HCG
                    generalize C[k] = KK at *
                    clear hkL
                    obtain ⟨x, y, kk⟩ := KK
                    simp only [knL, List.getD_cons_succ, List.getD_cons_zero, Nat.add_zero] at c1 c2 c3 hmv hgb hmk
                    generalize mvX P x y = X at *
                    generalize mvY P x y = Y at *
                    rw [← hgb] at hsn
                    rw [hmk] at hms
                    have HMK := Lib.hid hmk
                    have HSN := Lib.hid hsn
                    have HMS := Lib.hid hms
                    have HMV := Lib.hid hmv
                    have HGB := Lib.hid hgb
                    have HGD := Lib.hid (fun w2 => rf_good X Y w2)
                    unfold Pt at HGD
                    have hP1 := hPx.since hSk
                    have hB1' := hBx.since hSk
                    obtain ⟨p1, p2, p3, p4, p5, p6, p7, p8⟩ := prt_cells hP1
                    clear hmk hsn hms hmv hgb
                    cases hgd : goodB X Y
                    · rw [hgd] at HGD HGB
                      have HF6 := Lib.hid (HFX.out 6 (R.v : Int))
                      have HNO := Lib.hid (show RR.e = 6 by
                        rw [HRI.out]
                        exact parts_far (by rw [← HRV.out]; exact HRE.out) (by rw [← HRV.out]; exact goodO_no HCM.out HKM.out HGB.out.symm))
                      clear hgd HFX
                      go_wp2_with (first | (go_at_call 15; (with_reducible refine (HMV.out _).mono ?_); rintro e w9 ⟨rfl, hS9⟩; have hX9 := ((Since.refl wr).alloc _).trans hS9; have kT9 := (krow wr wr.heap.size rfl 62 x y kk).since hS9) | (go_at_call 39; (with_reducible refine (HGD.out _).mono ?_); rintro e wA ⟨rfl, hSA⟩; have hXA := hX9.trans (((Since.refl w9).alloc _).trans hSA); have hBA := hB1'.since hXA) | (go_at_call 35; (with_reducible refine (HF6.out _ hBA).mono ?_); rintro e wB ⟨rfl, hBB, hNB⟩))
                      go_ret
                      exact rvp_no (x := 6) (by rw [fin12_err (by rw [HNO.out]; omega), HNO.out]) (by omega) hBB ((HN03.out.trans (hNx.since (hSk.trans hXA))).trans hNB)
                    · rw [hgd] at HGD HSN
                      have HGN := Lib.hid (show goodL P (C.take (k + 1)) = true by rw [HSN.out, HGK.out]; rfl)
                      clear hgd HFX
                      go_wp2_with (first | (go_at_call 15; (with_reducible refine (HMV.out _).mono ?_); rintro e w9 ⟨rfl, hS9⟩; have hX9 := ((Since.refl wr).alloc _).trans hS9; have kT9 := (krow wr wr.heap.size rfl 62 x y kk).since hS9) | (go_at_call 39; (with_reducible refine (HGD.out _).mono ?_); rintro e wA ⟨rfl, hSA⟩; have hYA := ((Since.refl w9).alloc _).trans hSA; have hXA := hX9.trans hYA; have kTA := kT9.since hYA; obtain ⟨t1, t2, t3, t4⟩ := kcells kTA; have hTA := (two_new w9 w9.heap.size rfl (.int .i64 X) (.int .i64 Y) 47).since hSA; obtain ⟨s1, s2, _, _, s5⟩ := id hTA; have hSS := hSk.trans hXA; have hOA := OwnG.since hOk hXA; have hzA := hXA.below.size) | (at_builtin; refine wpList_append_g rfl _ _ 64 62 rfl (by omega) knL_len knL_one 24 Try.underlying64 infoKn bd _ _ rfl (OwnG.alloc hOA _) _ _ 1 [⟨X, Y, kk⟩] rfl (kn_one wA _ rfl _ ⟨X, Y, kk⟩) ?_ ?_ ?_ ?_; (focus (have := HOL2.out; simp only [List.length_cons, List.length_nil]; omega)); (focus (have := HOL2.out; simp only [List.length_cons, List.length_nil, maxLen]; omega)); (focus (have := hSk.below.size; simp; omega)); intro v7 w7 hO7 hg7 hb7))
                      go_roundw
                      case rel => first | exact ⟨k + 1, by omega, by first | rfl | go_num | simp, by rw [HMS.out]; exact hO7, since_grown (hSS.alloc _) hg7 (fun q hq => Nat.le_trans hbd1 (hb7 q hq).1), HGN⟩ | ((repeat apply Exists.intro); refine ⟨?_, rfl⟩; exact ⟨k + 1, by omega, by first | rfl | go_num | simp, by rw [HMS.out]; exact hO7, since_grown (hSS.alloc _) hg7 (fun q hq => Nat.le_trans hbd1 (hb7 q hq).1), HGN⟩)
                      case measure => simp [intOf]; omega
                  · obtain rfl : n6 = k := by omega
                    have hkI : ¬ (n6 : Int) < (n6 : Int) := by omega
                    have e1 : C.take n6 = C := by rw [HN6.out, List.take_length]
                    have h2 := HGK.out
                    rw [e1] at hOk h2
                    have HGC := Lib.hid h2
                    have hO7 := hOx.since hSk
                    have hB7 := hBx.since hSk
                    have hP7 := hPx.since hSk
                    have hN7 := hNx.since hSk
                    have hz7 := hSk.below.size
                    obtain ⟨A7, c7, rfl, _, _⟩ := OwnG.rd (by omega) knL_len hOk
                    rw [List.length_map] at hOk ⊢
                    have hK8 := OwnG.low (base' := w3.heap.size) hOk (by have := hNx.1.1; omega)
                    have hKB7 : ∀ b, bp + 1 ≤ b → b < w5.heap.size → wr.heap[b]? = w5.heap[b]? := fun b' h1 h2 => by
                      rw [hSk.below.block b' (by omega)]; exact HKB.out b' h1 h2
                    have HKB7 := Lib.hid hKB7
                    clear e1 h2 hKB7 HKB
                    have hz3 : w3.heap.size ≤ wr.heap.size := hN7.1.1
                    go_wp2_with (at_builtin; refine wpList_append_oc rfl _ _ rfl w3.heap.size _ OUT' rfl hO7 _ 1 A7 C.length c7 (C.map (mvK P)) rfl _ rfl hK8 hOLn hz3 ?_; intro v8 w8 hO8 hg8 hq8 hv8)
                    have hqo : ∀ q', u7.ownBlock = some q' → q' ≠ q ∧ q' ≠ bp := fun q' e => by
                      have h1 := (hq8 q' e).1
                      have h2 := HAP.out q' e
                      omega
                    have hB8 := (hB7.since ((Since.refl wr).alloc (.cells #[.slice A7 C.length c7] 64))).grown hg8 (fun e => (hqo q e).1 rfl)
                    have hP8 := (hP7.since ((Since.refl wr).alloc (.cells #[.slice A7 C.length c7] 64))).grownX hg8 (fun e => (hqo bp e).2 rfl)
                    have hN8 := (hN7.since ((Since.refl wr).alloc (.cells #[.slice A7 C.length c7] 64))).grown hg8 (fun k e => (hq8 k e).1)
                    have hz8 : wr.heap.size + 1 ≤ w8.heap.size := by have := hg8.size; simpa using this
                    have hKB8 : ∀ b, bp + 1 ≤ b → b < w5.heap.size → w8.heap[b]? = w5.heap[b]? := fun b' h1 h2 => by
                      rw [hg8.block b' (by simp; omega) (fun e => by have := HAP.out b' e.symm; omega), ((Since.refl wr).alloc (.cells #[.slice A7 C.length c7] 64)).below.block b' (by omega)]
                      exact HKB7.out b' h1 h2
                    have hAP8 : ∀ q', v8.ownBlock = some q' → q' < bp ∨ w5.heap.size ≤ q' := fun q' e => by
                      rcases hv8 with h1 | h1
                      · exact HAP.out q' (h1.symm.trans e)
                      · rw [h1] at e
                        injection e with e
                        omega
                    have HOX8 := Lib.hid (show OUT' ++ [C.map (mvK P)] = OUT ++ (R.LL.take (j + 1)).map (List.map (mvK P)) by rw [HOX.out]; exact (outO_snoc HCJ.out).symm)
                    have HGO8 := Lib.hid (show goodO P (R.LL.take (j + 1)) = true by rw [goodO_snoc HCJ.out, HGO.out, HGC.out]; rfl)
                    have HKB8 := Lib.hid hKB8
                    have HAP8 := Lib.hid hAP8
                    have hsz8 : w5.heap.size ≤ w8.heap.size := by omega
                    clear hKB8 hAP8 hqo
                    go_roundw
                    case rel => first | exact ⟨j + 1, _, by omega, by first | rfl | go_num | simp, hO8, HOX8, hB8, HGO8, hN8, hP8, HKB8, HAP8, hsz8⟩ | ((repeat apply Exists.intro); refine ⟨?_, rfl⟩; exact ⟨j + 1, _, by omega, by first | rfl | go_num | simp, hO8, HOX8, hB8, HGO8, hN8, hP8, HKB8, HAP8, hsz8⟩)
                    case measure => simp [intOf]; omega
              · obtain rfl : K = j := by omega
                have hjI : ¬ (K : Int) < (K : Int) := by omega
                have e1 : R.LL.take K = R.LL := by rw [HKK.out, List.take_length]
                have h1 := HOX.out
                have h2 := HGO.out
                rw [e1] at h1 h2
                have hst : StR12 (vis12 G f) RR Ps OUT' (i + 1) (R.v : Int) 0 := by
                  refine .inl ⟨rfl, R.v, rfl, hfv, ?_⟩
                  rw [HRI.out, parts_good (by rw [← HRV.out]; exact HRE.out) (by rw [← HRV.out]; exact h2), ← HRV.out, ← h1]
                have hl1 : OUT'.length ≤ 4096 * (i + 1) := by
                  have := hOlt.out
                  have h3 := HKK.out
                  rw [h1, List.length_append, List.length_map]; omega
                have hl2 : ∀ L, L ∈ OUT' → L.length ≤ 4096 := fun L' hL' => by
                  rw [h1, List.mem_append] at hL'
                  rcases hL' with h3 | h3
                  · exact HOL.out L' h3
                  · obtain ⟨M', hM', rfl⟩ := List.mem_map.1 h3
                    have h4 := mem_sum hM'
                    have h5 := HF2.out
                    rw [List.length_map]; omega
                have HS2 := Lib.hid hst
                have HL2 := Lib.hid hl2
                clear h1 h2 e1 hst hl2 hfv HKB HAP hPx
                go_wp2_with fail
                go_roundw
                case rel => first | exact ⟨i + 1, OUT', (R.v : Int), 0, by omega, by first | rfl | go_num | simp, hOx, hl1, HL2, hBx, hNx, HS2⟩ | ((repeat apply Exists.intro); refine ⟨?_, rfl⟩; exact ⟨i + 1, OUT', (R.v : Int), 0, by omega, by first | rfl | go_num | simp, hOx, hl1, HL2, hBx, hNx, HS2⟩)
                case measure => simp [intOf]; omega
          · have HQR := Lib.hid (show RR = ⟨[], R.v, R.e⟩ by rw [HRI.out, HRV.out]; exact parts_err (by rw [← HRV.out]; exact hRe))
            have HVJ := Lib.hid (fun (w4 : World) (h4 : Nigh q w3 w4) (hB4 : BoxX w4 q (RdrF (some ⟨b, o, none⟩) N c (vn : Int) 0)) => (HVI.out w4 h4 hB4).mono (show ∀ e w', _ → ∃ V, e = .returned (.slice none 0 0) ∧ BoxX w' q (RdrF (some ⟨b, o, none⟩) N c V R.e) ∧ Nigh q w4 w' from fun e w' ⟨u, V', a1, a2, a3, _, a5⟩ => ⟨V', by rw [a1, a5 hRe], a2, a3⟩))
            clear hfin HRI HRV HVV HGG HPT HVI
            generalize hEE : R.e = EE at *
            have HOLx := HOL
            go_wp2_with (go_at_call 22; (with_reducible refine (HVJ.out _ (hN.since ((Since.refl wr).alloc _)) (hB.since ((Since.refl wr).alloc _))).mono ?_); rintro e w5 ⟨V5, rfl, hB5, hN5⟩; have hO5 := (hO.since ((Since.refl wr).alloc _)).nigh hN5 hqw2; have hN25 := (hN.since ((Since.refl wr).alloc _)).trans hN5)
            go_loopw [7, 112] (fun v y wx => y = .int .i64 0 ∧ v = u7 ∧ wx = w5) (fun _ y _ => 0)
            case atStart => exact ⟨rfl, rfl, rfl⟩
            case round =>
              obtain ⟨rfl, rfl, rfl⟩ := hrel
              have hl1 : OUT.length ≤ 4096 * (i + 1) := by omega
              go_wp2_with fail
              go_roundw
              case rel => first | exact ⟨i + 1, OUT, V5, EE, by omega, by first | rfl | go_num | simp, hO5, hl1, HOLx, hB5, hN25, Lib.hid (.inr ⟨hRe, by rw [HQR.out]⟩)⟩ | ((repeat apply Exists.intro); refine ⟨?_, rfl⟩; exact ⟨i + 1, OUT, V5, EE, by omega, by first | rfl | go_num | simp, hO5, hl1, HOLx, hB5, hN25, Lib.hid (.inr ⟨hRe, by rw [HQR.out]⟩)⟩)
              case measure => simp [intOf]; omega
        · have dE : (E == 0) = false := by simpa using hE0
          have HRE := Lib.hid hRE
          clear HVV HGG HPT HST
          go_wp2_with fail
          go_ret
          exact rvp_no (x := E) (by rw [fin12_err (by rw [HRE.out]; exact hE0), HRE.out]) hE0 (hB.since (by first | exact (Since.refl _).alloc _ | exact Since.refl _)) (HN03.out.trans (hN.since (by first | exact (Since.refl _).alloc _ | exact Since.refl _)))
      · obtain rfl : M = i := by omega
        have hiI : ¬ (M : Int) < (M : Int) := by omega
        have hS03 : w.heap.size ≤ w3.heap.size := HN03.out.1.1
        clear HVV HGG HPT
        obtain ⟨x0, x1, x2, x3, x4, x5⟩ := rdr_cells hB.row
        have hlen : ∀ L, L ∈ OUT → L.length ≤ 1000000 := fun L hL => by have := HOL.out L hL; omega
        have hOlen : OUT.length ≤ 1000000 := by omega
        rcases HST.out with ⟨rfl, vn, rfl, hvn, hRi⟩ | ⟨hE0, hRE⟩
        · rw [HM.out, List.drop_length] at hRi
          have hRe : RR = ⟨OUT, vn, 0⟩ := hRi
          have HRe := Lib.hid hRe
          obtain ⟨Au, cu, rfl, _, hru⟩ := hO.rd
          have HKL := Lib.hid (HKN.out Au cu OUT wr hru hOlen hlen)
          obtain ⟨sm, hsm⟩ : ∃ sm, sm = sumL OUT := ⟨_, rfl⟩
          rw [← hsm] at HKL
          have HSM := Lib.hid hsm
          have HF7 := Lib.hid (HFX.out 7 (vn : Int))
          clear HKN hsm hlen hRi hRe HST HFX
          by_cases hgs : 4096 < sm
          · have hsI : (4096 : Int) < (sm : Int) := by omega
            go_wp2_with (first | (go_at_call 40; (with_reducible refine HKL.out.mono ?_); rintro e w7 ⟨rfl, hS7⟩; have hB7 := hB.since hS7) | (go_at_call 35; (with_reducible refine (HF7.out _ hB7).mono ?_); rintro e w8 ⟨rfl, hB8, hN8⟩; obtain ⟨z0, z1, z2, z3, z4, z5⟩ := rdr_cells hB8.row))
            go_ret
            exact rvp_no (x := 7) (fin12_many (by rw [HRe.out]) (by rw [HRe.out, ← HSM.out]; exact hgs)) (by omega) hB8 ((HN03.out.trans (hN.since hS7)).trans hN8)
          · have hsI : ¬ (4096 : Int) < (sm : Int) := by omega
            go_wp2_with (go_at_call 40; (with_reducible refine HKL.out.mono ?_); rintro e w7 ⟨rfl, hS7⟩; have hB7 := hB.since hS7; obtain ⟨z0, z1, z2, z3, z4, z5⟩ := rdr_cells hB7.row)
            go_ret
            exact rvp_yes (by rw [HRe.out]) (by rw [HRe.out, ← HSM.out]; omega) (by rw [HRe.out]; exact (hO.since hS7).lowO hS03) (by rw [HRe.out]; exact hB7) (HN03.out.trans (hN.since hS7))
        · have dE : (E == 0) = false := by simpa using hE0
          have HRE := Lib.hid hRE
          clear HST HKN HFX
          go_wp2_with fail
          go_ret
          exact rvp_no (x := E) (by rw [fin12_err (by rw [HRE.out]; exact hE0), HRE.out]) hE0 hB (HN03.out.trans hN)
  · have hP0 := HNO.out hE
    subst hP0
    rw [if_pos hE]
    have HF := Lib.hid (HFX.out EE V1)
    have dE : (EE == 0) = false := by simpa using hE
    clear HF0 HFX HNO HOK HVV HBG HKN
    go_enter Try.func22, Try.ntmps22
    go_wp2_with (first | (go_at_call 36; (with_reducible refine (HKD.out _ (hK1.out.more (Nat.le_of_lt hB1.out.lt))).mono ?_); rintro e w2 ⟨rfl, hS2⟩; have hB2 := hB1.out.since hS2; have hK2 := (hK1.out.keep (fun b' o' h => hS2.1 b' o' (Nat.lt_of_lt_of_le h (Nat.le_of_lt hB1.out.lt)))).more (Nat.le_of_lt hB2.lt)) | (go_at_call 38; (with_reducible refine (HCR.out _ hK2).mono ?_); rintro e w3 ⟨A3, c3, A4, c4, rfl, hO3, _, _, hS3⟩; have hB3 := hB2.since hS3) | (go_at_call 35; (with_reducible refine (HF.out _ hB3).mono ?_); rintro e w4 ⟨rfl, hB4, hN4⟩))
    go_loopw [7, 96] (fun u y wr => y = .int .i64 0 ∧ u = .slice none 0 0 ∧ wr = w4) (fun _ y _ => 0)
    case atStart => exact ⟨rfl, rfl, rfl⟩
    case round =>
      obtain ⟨rfl, rfl, rfl⟩ := hrel
      obtain ⟨z0, z1, z2, z3, z4, z5⟩ := rdr_cells hB4.row
      go_wp2_with fail
      go_ret
      exact rvp_no (r := ⟨[], v + 1, EE⟩) (fin12_err hE) hE hB4 (((hN1.out.since hS2).since hS3).trans hN4)
end Go.Proofs.Ytcjjcjpkmjbfkaa
