/-
  Layer 12: the program's visits, by their depth; Of.
-/
import Derived.Test.YtcjjcjpkmjbfkaaExH
namespace Go.Proofs.Ytcjjcjpkmjbfkaa
open Go.RowKit Go.ChangeShapes Go.WideShapes Go.Deep
set_option linter.unusedVariables false
set_option linter.unusedSimpArgs false

theorem kd_cases (L : List Int) : (kd12 L = 0 ∧ L.length < 2) ∨ (kd12 L = 1 ∧ ¬ L.length < 2 ∧ ¬ 128 ≤ fnL L 0) ∨ (kd12 L = 2 ∧ ¬ L.length < 2 ∧ 128 ≤ fnL L 0) := by
  unfold kd12
  by_cases h : L.length < 2
  · rw [if_pos h]; exact .inl ⟨rfl, h⟩
  · rw [if_neg h]
    by_cases h2 : 128 ≤ fnL L 0
    · rw [if_pos h2]; exact .inr (.inr ⟨rfl, h, h2⟩)
    · rw [if_neg h2]; exact .inr (.inl ⟨rfl, h, h2⟩)
theorem vis_few {q : Nat} {A : Option Addr} {N c : Nat} {r : St12} {w w' : World} {u : Value} {V : Int} {LL : List (List Kt)} (hU : OwnO w' w.heap.size u LL) (hs : sumL LL ≤ 4096) (hB : BoxX w' q (RdrF A N c V r.e)) (hN : Nigh q w w') (hE : r.e = 0 → V = (r.v : Int) ∧ LL = r.LL) : VisP q A N c (fin12 r) w (.returned u) w' := by
  refine ⟨u, V, rfl, ?_, hN, fun h => ?_⟩
  · unfold fin12
    split
    · exact hB
    · rename_i h0
      have h1 := hE (by omega)
      rw [if_neg (by rw [← h1.2]; omega)]
      exact hB
  · obtain ⟨h1, h2, h3⟩ := fin_fine h
    rw [h2]
    obtain ⟨h4, h5⟩ := hE h1
    exact ⟨h4, by rw [← h5]; exact hU⟩
theorem vis_many {q : Nat} {A : Option Addr} {N c : Nat} {r : St12} {w w' : World} {u : Value} {V : Int} {LL : List (List Kt)} (hs : 4096 < sumL LL) (hB : BoxX w' q (RdrF A N c V (if r.e = 0 then 7 else r.e))) (hN : Nigh q w w') (hE : r.e = 0 → LL = r.LL) : VisP q A N c (fin12 r) w (.returned u) w' := by
  have he : (fin12 r).e = if r.e = 0 then 7 else r.e := by
    unfold fin12
    by_cases h0 : r.e = 0
    · rw [if_neg (by omega), if_pos h0, if_pos (by rw [← hE h0]; exact hs)]
    · rw [if_pos h0, if_neg h0]
  refine ⟨u, V, rfl, by rw [he]; exact hB, hN, fun h => ?_⟩
  rw [he] at h
  split at h
  · omega
  · omega
set_option maxRecDepth 1000000 in
set_option maxHeartbeats 32000000 in
theorem ex_visit_in (q : Nat) (A : Option Addr) (N c : Nat) (G : List (List Int)) (f : Nat) (d : Int) (hd : d = 16 - (f : Int)) (hf : f ≤ 16) (hbG : ∀ b, b ∈ G → Bytes b) (hlG : ∀ b, b ∈ G → b.length ≤ 140737488355328) (hN : N = G.length) (hN63 : N ≤ 9223372036854775807)
    (HV : ∀ (id : Int) (v : Nat) (w2 : World), v ≤ 4096 → BoxX w2 q (RdrF A N c (v : Int) 0) → RdBL w2 q A G → Calls Try.prog 21 #[.pointer (some ⟨q, 0, none⟩), .int .i64 id, .int .i64 (d + 1)] w2 (VisP q A N c (vis12 G f id v) w2))
    (id : Int) (v : Nat) (w : World) (hR : BoxX w q (RdrF A N c (v : Int) 0)) (hG : RdBL w q A G) (h0 : 0 ≤ id) (h1 : id < (N : Int)) (hv : v + 1 ≤ 4096) :
    Calls Try.prog 21 #[.pointer (some ⟨q, 0, none⟩), .int .i64 id, .int .i64 d] w (VisP q A N c (fin12 (body12 (vis12 G f) (G.getD id.toNat []) (v + 1))) w) := by
  obtain ⟨k, rfl⟩ : ∃ k : Nat, id = (k : Int) := ⟨id.toNat, by omega⟩
  have hkG : k < G.length := by omega
  have hGk : G[k]? = some G[k] := List.getElem?_eq_getElem hkG
  have hLb := hbG _ (List.getElem_mem hkG)
  have hLl := hlG _ (List.getElem_mem hkG)
  have e1 : G.getD (k : Int).toNat [] = G[k] := by rw [Int.toNat_natCast, List.getD_eq_getElem?_getD, hGk]; rfl
  rw [e1]
  clear e1
  obtain ⟨b, o, A', c', rfl, hb, hcell, hlc, hK⟩ := hG.row hGk
  generalize G[k] = L at *
  obtain ⟨n', hn'⟩ : ∃ n', n' = L.length := ⟨_, rfl⟩
  rw [← hn'] at hcell hlc hLl
  have hq := hR.lt
  have hkN : (k : Int) < (N : Int) := h1
  have hw1 : IntKind.i64.wrap ((v : Int) + 1) = ((v + 1 : Nat) : Int) := by rw [IntKind.wrap_i64]; omega
  have hd16 : d ≤ 16 := by omega
  have hdc : ¬ (16 : Int) < d := by omega
  have hNI : (N : Int) ≤ 9223372036854775807 := by omega
  have hk0 : ¬ (k : Int) < 0 := by omega
  have hkd : decide ((k : Int) < 0) = false := by simp
  have hkN2 : ¬ (N : Int) ≤ (k : Int) := by omega
  have hv4 : ¬ (4096 : Int) < ((v + 1 : Nat) : Int) := by omega
  obtain ⟨c0, c1, c2, f1, f2, _⟩ := rdr_cells hR.row
  have hB1 := Lib.hid (hR.at ((v + 1 : Nat) : Int))
  have hN1 := Lib.hid ((Nigh.refl q w).set 1 (.int .i64 ((v + 1 : Nat) : Int)))
  have hbq : ¬ b = q := by omega
  have hqb : ¬ q = b := by omega
  have hG1 := Lib.hid (hG.nigh hN1.out (Nat.le_refl _) hq)
  have hK1 := Lib.hid (show RdB (w.setCell ⟨q, 1, none⟩ (.int .i64 ((v + 1 : Nat) : Int))) q A' L from by
    refine hK.keep fun b' o' h => ?_
    rw [cell_set, if_neg (fun e => by have := e.1; omega)])
  have HKD := Lib.hid (fun (w2 : World) (h2 : RdB w2 w2.heap.size A' L) => ft_kind A' n' c' L w2 h2 hn' hLl)
  have hbw : b < w.heap.size := by omega
  have HKN := Lib.hid (fun (Au : Option Addr) (cu : Nat) (LL : List (List Kt)) (w2 : World) (h2 : RdOL w2 w2.heap.size Au LL) (hn : LL.length ≤ 1000000) (hm : ∀ L, L ∈ LL → L.length ≤ 1000000) => ou_knotsG Au cu LL w2 h2 hn hm)
  unfold KnotsOut at HKN
  have HDD := Lib.hid (⟨hd, hf⟩ : d = 16 - (f : Int) ∧ f ≤ 16)
  have hSIM := Lib.hid (fun (w2 : World) (hB : BoxX w2 q (RdrF (some ⟨b, o, none⟩) N c ((v + 1 : Nat) : Int) 0)) (hK : RdB w2 w2.heap.size A' L) => ex_simple q (some ⟨b, o, none⟩) N c ((v + 1 : Nat) : Int) A' n' c' L w2 hB hK hLb hn' hLl hlc)
  unfold WkPost at hSIM
  have hCMP := Lib.hid (fun (w2 : World) (hB : BoxX w2 q (RdrF (some ⟨b, o, none⟩) N c ((v + 1 : Nat) : Int) 0)) (hG : RdBL w2 q (some ⟨b, o, none⟩) G) (hK : RdB w2 q A' L) => ex_comp q (some ⟨b, o, none⟩) N c G f d hd hf hbG hN63 (v + 1) hv HV A' n' c' L w2 hB hG hK hLb hn' hLl hlc)
  unfold CmpP at hCMP
  have hfin := lay7_fine (bytes_fn hLb)
  obtain ⟨V1, hV1⟩ : ∃ V1, V1 = ((v + 1 : Nat) : Int) := ⟨_, rfl⟩
  rw [← hV1] at hw1 hv4 hB1 hN1 hG1 hK1 hSIM hCMP
  have HV1 := Lib.hid hV1
  clear hV1 hd hf hGk hkG hbG hlG hN hR hG hK HV h0 h1 hv hdc hk0
  have hdc : ¬ (16 : Int) < d := by omega
  rcases kd_cases L with ⟨hk, hl⟩ | ⟨hk, hl, hl2⟩ | ⟨hk, hl, hl2⟩
  · rw [hk] at HKD
    have hbd : body12 (vis12 G f) L (v + 1) = ⟨[], v + 1, 0⟩ := by unfold body12; rw [if_pos hl]
    rw [hbd]
    have HK0 := Lib.hid (fun (w2 : World) => HKN.out none 0 [] w2 ⟨[], rfl, RdG.nil, fun j h L h1 h2 => by simp at h1⟩ (by simp) (by simp))
    rw [show sumL [] = 0 from rfl] at HK0
    simp only [List.length_nil] at HK0
    clear hbd hl hk HKN hSIM hCMP hfin hn' hLb
    go_enter Try.func21, Try.ntmps21
    go_wp2_with (first | (go_at_call 31; (with_reducible refine (HKD.out _ (hK1.out.more (Nat.le_of_lt hB1.out.lt))).mono ?_); rintro e w2 ⟨rfl, hS2⟩) | (go_at_call 34; (with_reducible refine (HK0.out _).mono ?_); rintro e w3 ⟨rfl, hS3⟩))
    go_ret
    exact vis_few (OwnO.nil _ _) (by simp [sumL]) (hB1.out.since (hS2.trans hS3)) (hN1.out.since (hS2.trans hS3)) (fun _ => ⟨HV1.out, rfl⟩)
  · rw [hk] at HKD
    have hbd : body12 (vis12 G f) L (v + 1) = ⟨(lay7 (rdAns7 (fnL L) L.length)).map (List.map liftK), v + 1, (rdAns7 (fnL L) L.length).e⟩ := by unfold body12; rw [if_neg hl, if_neg hl2]
    rw [hbd]
    have hs1 : sumL ((lay7 (rdAns7 (fnL L) L.length)).map (List.map liftK)) ≤ 4096 := by rw [sum_map]; exact hfin.2.2
    have hs2 := fine_lift hfin
    generalize (lay7 (rdAns7 (fnL L) L.length)).map (List.map liftK) = LL at *
    generalize (rdAns7 (fnL L) L.length).e = EE at *
    have hll := len_sum hs2.2
    have HKL := Lib.hid (fun (Au : Option Addr) (cu : Nat) (w2 : World) (h2 : RdOL w2 w2.heap.size Au LL) => HKN.out Au cu LL w2 h2 (by omega) (fun M hM => by have := mem_sum hM; omega))
    obtain ⟨sm, hsm⟩ : ∃ sm, sm = sumL LL := ⟨_, rfl⟩
    rw [← hsm] at HKL hs1
    have HSM := Lib.hid hsm
    have hsI : ¬ (4096 : Int) < (sm : Int) := by omega
    clear hbd hl hl2 hk HKN hCMP hfin hn' hLb hs2 hll hsm
    go_enter Try.func21, Try.ntmps21
    go_wp2_with (first | (go_at_call 31; (with_reducible refine (HKD.out _ (hK1.out.more (Nat.le_of_lt hB1.out.lt))).mono ?_); rintro e w2 ⟨rfl, hS2⟩; have hB2 := hB1.out.since hS2; have hK2 := (hK1.out.keep (fun b' o' h => hS2.1 b' o' (Nat.lt_of_lt_of_le h (Nat.le_of_lt hB1.out.lt)))).more (Nat.le_of_lt hB2.lt)) | (go_at_call 32; (with_reducible refine (hSIM.out _ hB2 hK2).mono ?_); rintro e w3 ⟨u3, rfl, hU3, hB3, hN3⟩; obtain ⟨Au, cu, rfl, _, hr3⟩ := hU3.rd) | (go_at_call 34; (with_reducible refine (HKL.out _ _ _ hr3).mono ?_); rintro e w4 ⟨rfl, hS4⟩))
    go_ret
    exact vis_few (r := ⟨LL, v + 1, EE⟩) ((hU3.lowO (hN1.out.since hS2).1.1).since hS4) (by rw [← HSM.out]; exact hs1) (hB3.since hS4) (((hN1.out.since hS2).trans hN3).since hS4) (fun _ => ⟨HV1.out, rfl⟩)
  · rw [hk] at HKD
    have hbd : body12 (vis12 G f) L (v + 1) = if (rdAns8 (fnL L) L.length).e ≠ 0 then ⟨[], v + 1, (rdAns8 (fnL L) L.length).e⟩ else parts12 (vis12 G f) (rdAns8 (fnL L) L.length).L [] (v + 1) := by unfold body12; rw [if_neg hl, if_pos hl2]
    rw [hbd]
    generalize (if (rdAns8 (fnL L) L.length).e ≠ 0 then (⟨[], v + 1, (rdAns8 (fnL L) L.length).e⟩ : St12) else parts12 (vis12 G f) (rdAns8 (fnL L) L.length).L [] (v + 1)) = RR at *
    have HFL := Lib.hid (fun (V : Int) (w2 : World) (h2 : BoxX w2 q (RdrF (some ⟨b, o, none⟩) N c V RR.e)) => ex_fail q (some ⟨b, o, none⟩) N c V RR.e 7 w2 h2)
    clear hbd hl hl2 hk hSIM hfin hn' hLb
    go_enter Try.func21, Try.ntmps21
    go_upto_region 17 with (first | (go_at_call 31; (with_reducible refine (HKD.out _ (hK1.out.more (Nat.le_of_lt hB1.out.lt))).mono ?_); rintro e w2 ⟨rfl, hS2⟩; have hB2 := hB1.out.since hS2; have hG2 := hG1.out.keep (fun b' o' h => hS2.1 b' o' (Nat.lt_of_lt_of_le h (Nat.le_of_lt hB1.out.lt))); have hK2 := hK1.out.keep (fun b' o' h => hS2.1 b' o' (Nat.lt_of_lt_of_le h (Nat.le_of_lt hB1.out.lt)))) | (go_at_call 33; (with_reducible refine (hCMP.out _ hB2 hG2 hK2).mono ?_); rintro e w3 ⟨u3, V3, LL, rfl, hU3, ⟨hl1, hl2⟩, hB3, hN3, hE3⟩; obtain ⟨Au, cu, rfl, _, hr3⟩ := hU3.rd))
    have HKL := Lib.hid (HKN.out Au cu LL w3 hr3 hl1 hl2)
    obtain ⟨sm, hsm⟩ : ∃ sm, sm = sumL LL := ⟨_, rfl⟩
    rw [← hsm] at HKL
    have HSM := Lib.hid hsm
    have hUw := hU3.lowO (hN1.out.since hS2).1.1
    have hNw := (hN1.out.since hS2).trans hN3
    have HE3 := Lib.hid hE3
    clear hsm HKN hCMP hE3 hU3 hN3 hB2 hG2 hK2
    by_cases hgs : 4096 < sm
    · have hsI : (4096 : Int) < (sm : Int) := by omega
      have HGS := Lib.hid (show 4096 < sumL LL by rw [← HSM.out]; exact hgs)
      clear hgs
      go_wp2_with (first | (go_at_call 34; (with_reducible refine HKL.out.mono ?_); rintro e w4 ⟨rfl, hS4⟩; have hB4 := hB3.since hS4) | (go_at_call 30; (with_reducible refine (HFL.out V3 _ hB4).mono ?_); rintro e w5 ⟨rfl, hB5, hN5⟩))
      go_ret
      exact vis_many HGS.out hB5 ((hNw.since hS4).trans hN5) (fun h => (HE3.out h).2)
    · have hsI : ¬ (4096 : Int) < (sm : Int) := by omega
      have HGS := Lib.hid (show sumL LL ≤ 4096 by rw [← HSM.out]; omega)
      clear hgs
      go_wp2_with (first | (go_at_call 34; (with_reducible refine HKL.out.mono ?_); rintro e w4 ⟨rfl, hS4⟩; have hB4 := hB3.since hS4))
      go_ret
      exact vis_few (hUw.since hS4) HGS.out hB4 (hNw.since hS4) HE3.out
end Go.Proofs.Ytcjjcjpkmjbfkaa
