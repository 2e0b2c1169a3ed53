/-
  Layer 12: the reference's visits of empty and simple glyphs.
-/
import Derived.Test.YtcjjcjpkmjbfkaaExK
namespace Go.Proofs.Ytcjjcjpkmjbfkaa
open Go.RowKit Go.ChangeShapes Go.WideShapes Go.Deep
set_option linter.unusedVariables false
set_option linter.unusedSimpArgs false

/-- What a visit of the reference leaves. -/
def RvP (q : Nat) (A : Option Addr) (N c : Nat) (R : St12) (w : World) (e : Ending) (w' : World) : Prop :=
  ∃ u V, e = .returned u ∧ BoxX w' q (RdrF A N c V R.e) ∧ Nigh q w w' ∧ (R.e = 0 → V = (R.v : Int) ∧ OwnO w' w.heap.size u R.LL) ∧ (R.e ≠ 0 → u = .slice none 0 0)
section
variable {q : Nat} {A : Option Addr} {N c : Nat} {r : St12} {w w' : World} {u : Value} {V x : Int}
theorem rvp_yes (hr : r.e = 0) (hs : sumL r.LL ≤ 4096) (hU : OwnO w' w.heap.size u r.LL) (hB : BoxX w' q (RdrF A N c (r.v : Int) 0)) (hN : Nigh q w w') : RvP q A N c (fin12 r) w (.returned u) w' := by
  have e : fin12 r = r := by unfold fin12; rw [if_neg (by omega), if_neg (by omega)]
  rw [e]
  exact ⟨u, _, rfl, by rw [hr]; exact hB, hN, fun _ => ⟨rfl, hU⟩, fun h => absurd hr h⟩
theorem rvp_no (h : (fin12 r).e = x) (hx : x ≠ 0) (hB : BoxX w' q (RdrF A N c V x)) (hN : Nigh q w w') : RvP q A N c (fin12 r) w (.returned (.slice none 0 0)) w' :=
  ⟨_, V, rfl, by rw [h]; exact hB, hN, fun h0 => absurd (h.symm.trans h0) hx, fun _ => rfl⟩
theorem fin12_err (h : r.e ≠ 0) : (fin12 r).e = r.e := by unfold fin12; rw [if_pos h]
theorem fin12_many (h : r.e = 0) (hs : 4096 < sumL r.LL) : (fin12 r).e = 7 := by unfold fin12; rw [if_neg (by omega), if_pos hs]
end
set_option maxRecDepth 1000000 in
set_option maxHeartbeats 32000000 in
theorem rf_visit_k1 (q : Nat) (A : Option Addr) (N c : Nat) (G : List (List Int)) (step : Int → Nat → St12) (d : Int) (hd : d ≤ 16) (hbG : ∀ b, b ∈ G → Bytes b) (hlG : ∀ b, b ∈ G → b.length ≤ 140737488355328) (hN : N = G.length) (hN63 : N ≤ 9223372036854775807)
    (id : Int) (v : Nat) (w : World) (hR : BoxX w q (RdrF A N c (v : Int) 0)) (hG : RdBL w q A G) (h0 : 0 ≤ id) (h1 : id < (N : Int)) (hv : v + 1 ≤ 4096) (hkd : kd12 (G.getD id.toNat []) ≠ 2) :
    Calls Try.prog 22 #[.pointer (some ⟨q, 0, none⟩), .int .i64 id, .int .i64 d] w (RvP q A N c (fin12 (body12 step (G.getD id.toNat []) (v + 1))) w) := by
  obtain ⟨k, rfl⟩ : ∃ k : Nat, id = (k : Int) := ⟨id.toNat, by omega⟩
  have hkG : k < G.length := by omega
  have hGk : G[k]? = some G[k] := List.getElem?_eq_getElem hkG
  have hLb := hbG _ (List.getElem_mem hkG)
  have hLl := hlG _ (List.getElem_mem hkG)
  have e1 : G.getD (k : Int).toNat [] = G[k] := by rw [Int.toNat_natCast, List.getD_eq_getElem?_getD, hGk]; rfl
  rw [e1] at hkd ⊢
  clear e1
  obtain ⟨b, o, A', c', rfl, hb, hcell, hlc, hK⟩ := hG.row hGk
  generalize G[k] = L at *
  obtain ⟨n', hn'⟩ : ∃ n', n' = L.length := ⟨_, rfl⟩
  rw [← hn'] at hcell hlc hLl
  have hq := hR.lt
  have hkN : (k : Int) < (N : Int) := h1
  have hw1 : IntKind.i64.wrap ((v : Int) + 1) = ((v + 1 : Nat) : Int) := by rw [IntKind.wrap_i64]; omega
  have hdc : ¬ (16 : Int) < d := by omega
  have hNI : (N : Int) ≤ 9223372036854775807 := by omega
  have hk0 : ¬ (k : Int) < 0 := by omega
  have hkd0 : decide ((k : Int) < 0) = false := by simp
  have hkN2 : ¬ (N : Int) ≤ (k : Int) := by omega
  have hv4 : ¬ (4096 : Int) < ((v + 1 : Nat) : Int) := by omega
  obtain ⟨c0, c1, c2, f1, f2, _⟩ := rdr_cells hR.row
  have hB1 := Lib.hid (hR.at ((v + 1 : Nat) : Int))
  have hN1 := Lib.hid ((Nigh.refl q w).set 1 (.int .i64 ((v + 1 : Nat) : Int)))
  have hbq : ¬ b = q := by omega
  have hqb : ¬ q = b := by omega
  have hK1 := Lib.hid (show RdB (w.setCell ⟨q, 1, none⟩ (.int .i64 ((v + 1 : Nat) : Int))) q A' L from by
    refine hK.keep fun b' o' h => ?_
    rw [cell_set, if_neg (fun e => by have := e.1; omega)])
  have HKD := Lib.hid (fun (w2 : World) (h2 : RdB w2 w2.heap.size A' L) => rf_kind A' n' c' L w2 h2 hn' hLl)
  have hbw : b < w.heap.size := by omega
  have HKN := Lib.hid (fun (Au : Option Addr) (cu : Nat) (LL : List (List Kt)) (w2 : World) (h2 : RdOL w2 w2.heap.size Au LL) (hn : LL.length ≤ 1000000) (hm : ∀ L, L ∈ LL → L.length ≤ 1000000) => rf_knotsG Au cu LL w2 h2 hn hm)
  unfold KnotsOut at HKN
  have hfin := lay7_fine (bytes_fn hLb)
  have HRD := Lib.hid (show ∀ w2 : World, RdB w2 w2.heap.size A' L → Calls Try.prog 37 #[.slice A' n' c'] w2 (RrPost7 (fnL L) L.length w2) from fun w2 h2 => by
    rw [← hn']
    exact rf_read7 A' n' c' (fnL L) w2 (by rw [hn']; exact rdb_rd h2) (by rw [hn']; exact bytes_fn hLb) hLl)
  unfold RrPost7 at HRD
  have HN' := Lib.hid hn'
  have HF0 := Lib.hid (fun (w2 : World) (h2 : BoxX w2 q (RdrF (some ⟨b, o, none⟩) N c ((v + 1 : Nat) : Int) 0)) => rf_fail0 q (some ⟨b, o, none⟩) N c ((v + 1 : Nat) : Int) w2 h2)
  have HFX := Lib.hid (fun (x : Int) (w2 : World) (h2 : BoxX w2 q (RdrF (some ⟨b, o, none⟩) N c ((v + 1 : Nat) : Int) 0)) => rf_fail q (some ⟨b, o, none⟩) N c ((v + 1 : Nat) : Int) 0 x w2 h2)
  have HV1 := Lib.hid hv
  obtain ⟨V1, hV1⟩ : ∃ V1, V1 = ((v + 1 : Nat) : Int) := ⟨_, rfl⟩
  rw [← hV1] at hw1 hv4 hB1 hN1 hK1 HF0 HFX
  have HVV := Lib.hid hV1
  clear hV1 hd hGk hkG hbG hlG hN hR hG hK h0 h1 hv hk0
  rcases kd_cases L with ⟨hk, hl⟩ | ⟨hk, hl, hl2⟩ | ⟨hk, _, _⟩
  · rw [hk] at HKD
    have hbd : body12 step L (v + 1) = ⟨[], v + 1, 0⟩ := by unfold body12; rw [if_pos hl]
    rw [hbd]
    have HK0 := Lib.hid (fun (w2 : World) => HKN.out none 0 [] w2 ⟨[], rfl, RdG.nil, fun j h L h1 h2 => by simp at h1⟩ (by simp) (by simp))
    rw [show sumL [] = 0 from rfl] at HK0
    simp only [List.length_nil] at HK0
    clear hbd hl hk HKN HRD hfin hn' hLb HF0 HFX hkd
    go_enter Try.func22, Try.ntmps22
    go_wp2_with (first | (go_at_call 36; (with_reducible refine (HKD.out _ (hK1.out.more (Nat.le_of_lt hB1.out.lt))).mono ?_); rintro e w2 ⟨rfl, hS2⟩; have hB2 := hB1.out.since hS2; obtain ⟨z0, z1, z2, z3, z4, z5⟩ := rdr_cells hB2.row) | (go_at_call 40; (with_reducible refine (HK0.out _).mono ?_); rintro e w3 ⟨rfl, hS3⟩; have hB3 := hB2.since hS3; obtain ⟨z0, z1, z2, z3, z4, z5⟩ := rdr_cells hB3.row))
    go_ret
    exact rvp_yes (r := ⟨[], v + 1, 0⟩) rfl (by simp [sumL]) (OwnO.nil _ _) (by rw [HVV.out] at hB3; exact hB3) (hN1.out.since (hS2.trans hS3))
  · rw [hk] at HKD
    have hbd : body12 step L (v + 1) = ⟨(lay7 (rdAns7 (fnL L) L.length)).map (List.map liftK), v + 1, (rdAns7 (fnL L) L.length).e⟩ := by unfold body12; rw [if_neg hl, if_neg hl2]
    rw [hbd]
    have hs1 : sumL ((lay7 (rdAns7 (fnL L) L.length)).map (List.map liftK)) ≤ 4096 := by rw [sum_map]; exact hfin.2.2
    have hs2 := fine_lift hfin
    have hno : (rdAns7 (fnL L) L.length).e ≠ 0 → lay7 (rdAns7 (fnL L) L.length) = [] := fun h => an7_no h
    have HS := Lib.hid (fun (A1 : Option Addr) (c1 : Nat) (w2 : World) (h2 : RdOL w2 w2.heap.size A1 (lay7 (rdAns7 (fnL L) L.length))) => rf_liftO A1 c1 _ w2 h2 (by have h1 := len_sum hfin.2.1; have h3 := hfin.2.2; omega) (fun M hM => by have h1 := mem_sum hM; have h3 := hfin.2.2; omega) hfin.1)
    unfold RfLiftO at HS
    generalize (rdAns7 (fnL L) L.length).e = EE at *
    generalize (rdAns7 (fnL L) L.length).m = mm at *
    generalize (rdAns7 (fnL L) L.length).s = ss at *
    generalize lay7 (rdAns7 (fnL L) L.length) = L7 at *
    clear hbd hl hl2 hk hfin hn' hLb hkd
    have hll := len_sum hs2.2
    have HKL := Lib.hid (fun (Au : Option Addr) (cu : Nat) (w2 : World) (h2 : RdOL w2 w2.heap.size Au (L7.map (List.map liftK))) => HKN.out Au cu _ w2 h2 (by omega) (fun M hM => by have := mem_sum hM; omega))
    by_cases hE : EE = 0
    · subst hE
      obtain ⟨LL, hLL⟩ : ∃ LL, LL = L7.map (List.map liftK) := ⟨_, rfl⟩
      rw [← hLL] at HKL HS hs1 ⊢
      obtain ⟨sm, hsm⟩ : ∃ sm, sm = sumL LL := ⟨_, rfl⟩
      rw [← hsm] at HKL hs1
      have HSM := Lib.hid hsm
      have hsI : ¬ (4096 : Int) < (sm : Int) := by omega
      clear HKN HFX hs2 hll hsm hno hLL
      go_enter Try.func22, Try.ntmps22
      go_wp2_with (first | (go_at_call 36; (with_reducible refine (HKD.out _ (hK1.out.more (Nat.le_of_lt hB1.out.lt))).mono ?_); rintro e w2 ⟨rfl, hS2⟩; have hB2 := hB1.out.since hS2; have hK2 := (hK1.out.keep (fun b' o' h => hS2.1 b' o' (Nat.lt_of_lt_of_le h (Nat.le_of_lt hB1.out.lt)))).more (Nat.le_of_lt hB2.lt)) | (go_at_call 37; (with_reducible refine (HRD.out _ hK2).mono ?_); rintro e w3 ⟨A3, c3, A4, c4, rfl, hO3, _, hS3⟩; have hB3 := hB2.since (hS3.alloc (.cells #[.slice A3 L7.length c3, .slice A4 mm c4] 51)); have hT3 := two_new w3 w3.heap.size rfl (.slice A3 L7.length c3) (.slice A4 mm c4) 51; have hq3 := (hB2.since hS3).lt) | (go_at_call 35; (with_reducible refine (HF0.out _ hB3).mono ?_); rintro e w4 ⟨rfl, hB4, hN4, hC4⟩; have hO4 := ((hO3.keep (fun b o h => (hC4 b o).trans (((Since.refl w3).alloc _).1 b o h))).more (B' := w4.heap.size) (by have := hN4.1.1; simp at this; omega)); have hT4 := hT3.near hN4 (by omega); obtain ⟨t1, t2, t3, t4, t5⟩ := id hT4; clear t3 t4) | (go_at_call 18; (with_reducible refine (HS.out A3 c3 _ hO4).mono ?_); rintro e w5 ⟨u5, rfl, hU5, hS5⟩; obtain ⟨A5, c5, rfl, hc5, hr5⟩ := hU5.rd; have hB5 := hB4.since hS5; obtain ⟨z0, z1, z2, z3, z4, z5⟩ := rdr_cells hB5.row) | (go_at_call 40; (with_reducible refine (HKL.out _ _ _ hr5).mono ?_); rintro e w6 ⟨rfl, hS6⟩; have hB6 := hB5.since hS6; obtain ⟨z0, z1, z2, z3, z4, z5⟩ := rdr_cells hB6.row))
      go_ret
      have hN6 := ((((hN1.out.since hS2).since (hS3.alloc (.cells #[.slice A3 L7.length c3, .slice A4 mm c4] 51))).trans hN4).since (hS5.trans hS6))
      have hz6 := (((hN1.out.since hS2).since (hS3.alloc (.cells #[.slice A3 L7.length c3, .slice A4 mm c4] 51))).trans hN4).1.1
      exact rvp_yes (r := ⟨LL, v + 1, 0⟩) rfl (by rw [← HSM.out]; exact hs1) ((hU5.since hS6).lowO hz6) (by rw [HVV.out] at hB6; exact hB6) hN6
    · have hL7 := hno hE
      subst hL7
      have dE : (EE == 0) = false := by simpa using hE
      clear HKN HKL HF0 hs2 hll hno hs1
      have HFZ := Lib.hid (HFX.out EE)
      rw [if_pos rfl] at HFZ
      simp only [List.map_nil, List.length_nil] at HS HRD
      clear HFX
      go_enter Try.func22, Try.ntmps22
      go_wp2_with (first | (go_at_call 36; (with_reducible refine (HKD.out _ (hK1.out.more (Nat.le_of_lt hB1.out.lt))).mono ?_); rintro e w2 ⟨rfl, hS2⟩; have hB2 := hB1.out.since hS2; have hK2 := (hK1.out.keep (fun b' o' h => hS2.1 b' o' (Nat.lt_of_lt_of_le h (Nat.le_of_lt hB1.out.lt)))).more (Nat.le_of_lt hB2.lt)) | (go_at_call 37; (with_reducible refine (HRD.out _ hK2).mono ?_); rintro e w3 ⟨A3, c3, A4, c4, rfl, hO3, _, hS3⟩; have hB3 := hB2.since (hS3.alloc (.cells #[.slice A3 0 c3, .slice A4 mm c4] 51)); have hT3 := two_new w3 w3.heap.size rfl (.slice A3 0 c3) (.slice A4 mm c4) 51; have hq3 := (hB2.since hS3).lt) | (go_at_call 35; (with_reducible refine (HFZ.out _ hB3).mono ?_); rintro e w4 ⟨rfl, hB4, hN4⟩; have hO4 : RdOL w4 w4.heap.size A3 [] := ⟨[], rfl, fun h => absurd h (by simp), fun j h L h1 h2 => by simp at h1⟩; have hT4 := hT3.near hN4 (by omega); obtain ⟨t1, t2, t3, t4, t5⟩ := id hT4; clear t3 t4) | (go_at_call 18; (with_reducible refine (HS.out A3 c3 _ hO4).mono ?_); rintro e w5 ⟨u5, rfl, hU5, hS5⟩; have hB5 := hB4.since hS5; obtain ⟨z0, z1, z2, z3, z4, z5⟩ := rdr_cells hB5.row))
      go_ret
      have hN6 := ((((hN1.out.since hS2).since (hS3.alloc (.cells #[.slice A3 0 c3, .slice A4 mm c4] 51))).trans hN4).since hS5)
      exact rvp_no (r := ⟨[], v + 1, EE⟩) (fin12_err hE) hE hB5 hN6
  · exact absurd hk hkd
end Go.Proofs.Ytcjjcjpkmjbfkaa
