/-
  Layer 12: the program's composite glyphs, walked, where its visits are known.
-/
import Derived.Test.YtcjjcjpkmjbfkaaExG
namespace Go.Proofs.Ytcjjcjpkmjbfkaa
open Go.RowKit Go.ChangeShapes Go.WideShapes Go.Deep
set_option linter.unusedVariables false
set_option linter.unusedSimpArgs false

theorem Row.grownX {w w' : World} {row : Option Nat} {b n : Nat} {F : Nat → Value} (h : Row w b n F) (hg : w.grownBy w' row) (hb : row ≠ some b) : Row w' b n F := by
  have e := hg.block b h.2.2 (fun x => hb x.symm)
  refine ⟨fun j hj => ?_, fun j => ?_, Nat.lt_of_lt_of_le h.2.2 hg.size⟩
  · rw [← h.1 j hj]; simp only [World.cell?, e]
  · rw [← h.2.1 j]; simp only [World.frozen?, e]
theorem BoxX.grown {w w' : World} {row : Option Nat} {q : Nat} {F : Nat → Value} (h : BoxX w q F) (hg : w.grownBy w' row) (hb : row ≠ some q) : BoxX w' q F := by
  have e := hg.block q h.lt (fun x => hb x.symm)
  exact ⟨h.1.grownX hg hb, fun j hj => by rw [← h.2 j hj]; simp only [World.cell?, e]⟩
theorem ownO_at {w : World} {base n c : Nat} {A : Option Addr} {LL : List (List Kt)} (h : OwnO w base (.slice A n c) LL) {j : Nat} {C : List Kt} (hC : LL[j]? = some C) : ∃ g A' c', A = some ⟨g, 0, none⟩ ∧ w.cell? ⟨g, j, none⟩ = some (.slice A' C.length c') ∧ OwnK w base (.slice A' C.length c') C ∧ g < w.heap.size := by
  obtain ⟨hs, hl, ho, hK⟩ := h
  have hjl : j < hs.length := by
    rw [hl]
    rcases Nat.lt_or_ge j LL.length with h | h
    · exact h
    · rw [List.getElem?_eq_none h] at hC; cases hC
  have h1 : hs[j]? = some hs[j] := List.getElem?_eq_getElem hjl
  have hk := hK j _ C h1 hC
  have hn : hs[j].n = C.length := by
    obtain ⟨A', c', e2, _, _⟩ := OwnG.rd (by omega) knL_len hk
    injection e2
  rcases ho.2 with ⟨_, h0⟩ | ⟨g, cap, cur, h0, _, hgg, _⟩
  · omega
  · injection h0 with h0
    subst h0
    obtain ⟨A2, c2, e2, _, hr2⟩ := ho.rd (by omega) hdL_len
    injection e2 with e3
    subst e3
    obtain ⟨b3, o3, e6, _, hc3⟩ := hr2 (by omega)
    injection e6 with e6
    injection e6 with e7 e8
    subst e7 e8
    have h3 := hc3 j _ h1 0 (by omega)
    rw [Nat.zero_add, Nat.mul_one, Nat.add_zero] at h3
    rw [hn] at hk
    refine ⟨g, hs[j].A, hs[j].c, rfl, ?_, hk, (Array.getElem?_eq_some_iff.1 hgg).1⟩
    rw [h3, ← hn]; rfl
theorem errM_comp (b g : Bool) : errM (errM 0 b) g = errM 0 (b && g) := by unfold errM; cases b <;> cases g <;> simp
theorem goodO_snoc {P : Pt8} {LL : List (List Kt)} {j : Nat} {C : List Kt} (hj : LL[j]? = some C) : goodO P (LL.take (j + 1)) = (goodO P (LL.take j) && goodL P C) := by
  have hl : j < LL.length := by
    rcases Nat.lt_or_ge j LL.length with h | h
    · exact h
    · rw [List.getElem?_eq_none h] at hj; cases hj
  have e : LL[j] = C := by rw [List.getElem?_eq_getElem hl] at hj; exact Option.some.inj hj
  unfold goodO
  rw [List.take_succ_eq_append_getElem hl, e, List.all_append]
  simp
theorem outO_snoc {P : Pt8} {LL OUT : List (List Kt)} {j : Nat} {C : List Kt} (hj : LL[j]? = some C) : OUT ++ (LL.take (j + 1)).map (List.map (mvK P)) = (OUT ++ (LL.take j).map (List.map (mvK P))) ++ [C.map (mvK P)] := by
  have hl : j < LL.length := by
    rcases Nat.lt_or_ge j LL.length with h | h
    · exact h
    · rw [List.getElem?_eq_none h] at hj; cases hj
  have e : LL[j] = C := by rw [List.getElem?_eq_getElem hl] at hj; exact Option.some.inj hj
  rw [List.take_succ_eq_append_getElem hl, e, List.map_append, List.append_assoc]; rfl
theorem ownK_ne {w : World} {base q n c : Nat} {A : Option Addr} {L : List Kt} (h : OwnK w base (.slice A n c) L) (hq : q < base) : ∀ b o, A = some ⟨b, o, none⟩ → b ≠ q := fun b o e1 e2 => by
  subst e1 e2
  have := (OwnG.lt h (g := b) rfl).1
  omega
theorem ownK_rd {w : World} {base n c : Nat} {A : Option Addr} {L : List Kt} (h : OwnK w base (.slice A n c) L) : RdKl w w.heap.size A L := by
  obtain ⟨A', c', e, _, hr⟩ := OwnG.rd (by omega) knL_len h
  injection e with e1
  rw [e1]; exact hr
/-- What a visit leaves. -/
def VisP (q : Nat) (A : Option Addr) (N c : Nat) (R : St12) (w : World) (e : Ending) (w' : World) : Prop :=
  ∃ u V, e = .returned u ∧ BoxX w' q (RdrF A N c V R.e) ∧ Nigh q w w' ∧ (R.e = 0 → V = (R.v : Int) ∧ OwnO w' w.heap.size u R.LL)
/-- What 'composite' leaves. -/
def CmpP (q : Nat) (A : Option Addr) (N c : Nat) (R : St12) (w : World) (e : Ending) (w' : World) : Prop :=
  ∃ u V LL, e = .returned u ∧ OwnO w' w.heap.size u LL ∧ (LL.length ≤ 1000000 ∧ ∀ L, L ∈ LL → L.length ≤ 1000000) ∧ BoxX w' q (RdrF A N c V R.e) ∧ Nigh q w w' ∧ (R.e = 0 → V = (R.v : Int) ∧ LL = R.LL)
/-- Behind i parts: all is well so far, or a point lay too far out. -/
def StC (step : Int → Nat → St12) (RR : St12) (Ps : List Pt8) (OUT : List (List Kt)) (i : Nat) (V E : Int) : Prop :=
  (E = 0 ∧ ∃ vn : Nat, V = (vn : Int) ∧ vn ≤ 4096 ∧ RR = parts12 step (Ps.drop i) OUT vn) ∨ (E = 6 ∧ RR.e = 6)
set_option maxRecDepth 1000000 in
set_option maxHeartbeats 32000000 in
theorem ex_comp (q : Nat) (A : Option Addr) (N c : Nat) (G : List (List Int)) (f : Nat) (d : Int) (hd : d = 16 - (f : Int)) (hf : f ≤ 16) (hbG : ∀ b, b ∈ G → Bytes b) (hN63 : N ≤ 9223372036854775807) (v0 : Nat) (hv0 : v0 ≤ 4096)
    (HV : ∀ (id : Int) (v : Nat) (w2 : World), v ≤ 4096 → BoxX w2 q (RdrF A N c (v : Int) 0) → RdBL w2 q A G → Calls Try.prog 21 #[.pointer (some ⟨q, 0, none⟩), .int .i64 id, .int .i64 (d + 1)] w2 (VisP q A N c (vis12 G f id v) w2))
    (A' : Option Addr) (n' c' : Nat) (L : List Int) (w : World) (hR : BoxX w q (RdrF A N c (v0 : Int) 0)) (hG : RdBL w q A G) (hb : RdB w q A' L) (hL : Bytes L) (hn : n' = L.length) (hx : n' ≤ 140737488355328) (hc : n' ≤ c') :
    Calls Try.prog 33 #[.pointer (some ⟨q, 0, none⟩), .slice A' n' c', .int .i64 d] w (CmpP q A N c (if (rdAns8 (fnL L) L.length).e ≠ 0 then ⟨[], v0, (rdAns8 (fnL L) L.length).e⟩ else parts12 (vis12 G f) (rdAns8 (fnL L) L.length).L [] v0) w) := by
  subst hn
  have HCR := Lib.hid (co_read A' L.length c' (fnL L) w (rdb_rd (hb.more (Nat.le_of_lt hR.lt))) (bytes_fn hL) hx hc)
  unfold RdPost8 at HCR
  have HOK := Lib.hid (fun (h : (rdAns8 (fnL L) L.length).e = 0) => ans_ok (bytes_fn hL) h)
  have HNO := Lib.hid (fun (h : (rdAns8 (fnL L) L.length).e ≠ 0) => (ans_no h).1)
  generalize (rdAns8 (fnL L) L.length).m = mm at *
  obtain ⟨EE, hE⟩ : ∃ EE, EE = (rdAns8 (fnL L) L.length).e := ⟨_, rfl⟩
  obtain ⟨Ps, hPs⟩ : ∃ Ps, Ps = (rdAns8 (fnL L) L.length).L := ⟨_, rfl⟩
  rw [← hE, ← hPs] at HCR HOK HNO
  rw [← hE, ← hPs]
  have hq := hR.lt
  have HRR := Lib.hid hR
  have HGG := Lib.hid hG
  have HVV := Lib.hid HV
  have HBG := Lib.hid hbG
  have hdI : IntKind.i64.wrap (d + 1) = d + 1 := by rw [IntKind.wrap_i64]; omega
  have HFL := Lib.hid (fun (x : Int) (w2 : World) (h2 : BoxX w2 q (RdrF A N c (v0 : Int) 0)) => ex_fail q A N c (v0 : Int) 0 x w2 h2)
  clear hR hG HV hbG hb hL hx hc hE hPs hd
  by_cases h0 : EE = 0
  · subst h0
    rw [if_neg (by simp)]
    obtain ⟨_, hPl, hPok, _⟩ := HOK.out rfl
    obtain ⟨RR, hRR⟩ : ∃ RR, RR = parts12 (vis12 G f) Ps [] v0 := ⟨_, rfl⟩
    rw [← hRR]
    have HRX := Lib.hid hRR
    obtain ⟨M, hM⟩ : ∃ M, M = Ps.length := ⟨_, rfl⟩
    rw [← hM] at HCR hPl
    have HM := Lib.hid hM
    have HPO := Lib.hid hPok
    have hMI : (M : Int) ≤ 64 := by omega
    have HF := Lib.hid (HFL.out 0)
    clear HFL HNO HOK hRR hM hPok
    go_enter Try.func33, Try.ntmps33
    go_wp2_with (first | (go_at_call 43; (with_reducible refine HCR.out.mono ?_); rintro e w2 ⟨A1, c1, A2, c2, rfl, hO, _, _, hS2⟩; have hR2 := HRR.out.since hS2) | (go_at_call 30; (with_reducible refine (HF.out _ hR2).mono ?_); rintro e w3 ⟨rfl, hR3, hN3⟩))
    have hR3 : BoxX w3 q (RdrF A N c (v0 : Int) 0) := by simpa using hR3
    have hqw2 : q < w2.heap.size := hR2.lt
    have HN02 := Lib.hid ((Nigh.refl q w).since hS2)
    have HPT := Lib.hid (fun (i : Nat) (P : Pt8) (h : Ps[i]? = some P) => part_at hO hR2 h)
    clear HCR HF hO hR2 HRR
    go_loopw [10, 27] (fun u y wr => ∃ (i : Nat) (OUT : List (List Kt)) (V E : Int), i ≤ M ∧ y = .int .i64 (i : Int) ∧ OwnO wr w2.heap.size u OUT ∧ OUT.length ≤ 4096 * i ∧ Hid (∀ L, L ∈ OUT → L.length ≤ 4096) ∧ BoxX wr q (RdrF A N c V E) ∧ Nigh q w2 wr ∧ Hid (StC (vis12 G f) RR Ps OUT i V E)) (fun _ y _ => M - (intOf y).toNat)
    case atStart => exact ⟨0, [], (v0 : Int), 0, by omega, rfl, OwnO.nil _ _, by simp, Lib.hid (by simp), hR3, hN3, Lib.hid (.inl ⟨rfl, v0, rfl, hv0, by rw [List.drop_zero]; exact HRX.out⟩)⟩
    case round =>
      obtain ⟨i, OUT, V, E, hi, rfl, hO, hOl, HOL, hB, hN, HST⟩ := hrel
      clear hR3 hN3
      by_cases hiM : i < M
      · have hiI : (i : Int) < (M : Int) := by omega
        have hiL : i < Ps.length := by rw [← HM.out]; exact hiM
        have hPi : Ps[i]? = some Ps[i] := List.getElem?_eq_getElem hiL
        have hPk := HPO.out _ (List.getElem_mem hiL)
        have HDR := Lib.hid (show Ps.drop i = Ps[i] :: Ps.drop (i + 1) from List.drop_eq_getElem_cons hiL)
        obtain ⟨b, o, rfl, hb, hbq, k0, k1, k2, k3, k4, k5, k6⟩ := HPT.out i _ hPi
        have hcc : ∀ o', wr.cell? ⟨b, o', none⟩ = w2.cell? ⟨b, o', none⟩ := fun o' => by
          have e := hN.1.2 b hb hbq
          simp only [World.cell?, e]
        rw [← hcc] at k0 k1 k2 k3 k4 k5 k6
        have hbw := Nat.lt_of_lt_of_le hb hN.1.1
        generalize Ps[i] = P at *
        have HPK := Lib.hid hPk
        clear hcc hPi hiL hPk
        have hqr := hB.lt
        rcases HST.out with ⟨rfl, vn, rfl, hvn, hRi⟩ | ⟨rfl, hR6⟩
        · rw [HDR.out] at hRi
          have HRI := Lib.hid hRi
          have HVI := Lib.hid (fun (w4 : World) (h4 : Nigh q w w4) (hB4 : BoxX w4 q (RdrF A N c (vn : Int) 0)) => HVV.out P.g vn w4 hvn hB4 (HGG.out.nigh h4 (Nat.le_refl _) hq))
          unfold VisP at HVI
          have hfin := vis_fine HBG.out f P.g vn
          obtain ⟨R, hR⟩ : ∃ R, R = vis12 G f P.g vn := ⟨_, rfl⟩
          rw [← hR] at HVI hfin
          have HRV := Lib.hid hR
          clear hR hRi HST
          by_cases hRe : R.e = 0
          · obtain ⟨hf12, hfs, hfv⟩ := hfin hRe
            have HVJ := Lib.hid (fun (w4 : World) (h4 : Nigh q w w4) (hB4 : BoxX w4 q (RdrF A N c (vn : Int) 0)) => (HVI.out w4 h4 hB4).mono (show ∀ e w', _ → ∃ u, e = .returned u ∧ BoxX w' q (RdrF A N c (R.v : Int) 0) ∧ Nigh q w4 w' ∧ OwnO w' w4.heap.size u R.LL from fun e w' ⟨u, V', a1, a2, a3, a4⟩ => by
              obtain ⟨a5, a6⟩ := a4 hRe
              rw [hRe, a5] at a2
              exact ⟨u, a1, a2, a3, a6⟩))
            have HF1 := Lib.hid hf12
            have HF2 := Lib.hid hfs
            have hKl := len_sum hf12.2
            obtain ⟨K, hK⟩ : ∃ K, K = R.LL.length := ⟨_, rfl⟩
            have hK4 : K ≤ 4096 := by omega
            have hKI : (K : Int) ≤ 4096 := by omega
            have HKK := Lib.hid hK
            have HRE := Lib.hid hRe
            have hOlt := Lib.hid hOl
            clear hfin hf12 hfs hKl hK hRe HVI HVV HGG HPT hOl
            have hOown : Hid (∀ q', _ = some q' → q' < wr.heap.size) := Lib.hid (fun q' e => by
              obtain ⟨hs, _, ho, _⟩ := hO
              exact (ho.lt e).2)
            go_wp2_with (go_at_call 21; (with_reducible refine (HVJ.out _ (HN02.out.trans (hN.since ((Since.refl wr).alloc _))) (hB.since ((Since.refl wr).alloc _))).mono ?_); rintro e w5 ⟨u5, rfl, hB5, hN5, hU5⟩; obtain ⟨A5, c5, rfl, hc5, hr5⟩ := hU5.rd; rw [← HKK.out] at hU5 ⊢; obtain ⟨z0, z1, z2, z3, z4, z5⟩ := rdr_cells hB5.row; have hP5 := (prt_new wr wr.heap.size rfl 44 P.g P.x P.y P.m0 P.m1 P.m2 P.m3).near hN5 (by omega); have hO5 := (hO.since ((Since.refl wr).alloc _)).nigh hN5 hqw2; have hN25 := (hN.since ((Since.refl wr).alloc _)).trans hN5; have hbp5 := hP5.2.2)
            have hsz4 : (wr.alloc (.cells #[.int .i64 P.g, .int .i64 P.x, .int .i64 P.y, .int .i64 P.m0, .int .i64 P.m1, .int .i64 P.m2, .int .i64 P.m3] 44)).heap.size = wr.heap.size + 1 := by simp
            rw [hsz4] at hU5
            have hqb : q < wr.heap.size := hqr
            have hb2 : w2.heap.size ≤ wr.heap.size := hN.1.1
            clear hsz4 hr5 hc5 hB hN hO hN5 z0 z1 z2 z3 z4 z5 k0 k1 k2 k3 k4 k5 k6 hbw HVJ hqr
            obtain ⟨bp, hbp⟩ : ∃ bp, bp = wr.heap.size := ⟨_, rfl⟩
            rw [← hbp] at hP5 hU5 hqb hb2 hOown hbp5 ⊢
            clear hbp
            go_loopw [10, 44] (fun v y wx => ∃ (j : Nat) (OUT' : List (List Kt)) (E' : Int), j ≤ K ∧ y = .int .i64 (j : Int) ∧ OwnO wx w2.heap.size v OUT' ∧ Hid (OUT' = OUT ++ (R.LL.take j).map (List.map (mvK P))) ∧ BoxX wx q (RdrF A N c (R.v : Int) E') ∧ Hid (E' = errM 0 (goodO P (R.LL.take j))) ∧ Nigh q w2 wx ∧ Row wx bp 7 (PrF P.g P.x P.y P.m0 P.m1 P.m2 P.m3) ∧ Hid (∀ b, bp + 1 ≤ b → b < w5.heap.size → wx.heap[b]? = w5.heap[b]?) ∧ Hid (∀ q', v.ownBlock = some q' → q' < bp ∨ w5.heap.size ≤ q') ∧ w5.heap.size ≤ wx.heap.size) (fun _ y _ => K - (intOf y).toNat)
            case atStart => exact ⟨0, OUT, 0, by omega, by first | rfl | simp, hO5, Lib.hid (by simp), hB5, Lib.hid (errM_true 0).symm, hN25, hP5, Lib.hid (fun b _ _ => rfl), Lib.hid (fun q' e => .inl (hOown.out q' e)), Nat.le_refl _⟩
            case round =>
              obtain ⟨j, OUT', E', hj, rfl, hOx, HOX, hBx, HEX, hNx, hPx, HKB, HAP, hsz⟩ := hrel
              clear hO5 hB5 hN25 hP5 hOown
              by_cases hjK : j < K
              · have hjI : (j : Int) < (K : Int) := by omega
                have hjL : j < R.LL.length := by rw [← HKK.out]; exact hjK
                have hCj : R.LL[j]? = some R.LL[j] := List.getElem?_eq_getElem hjL
                have hCm : R.LL[j] ∈ R.LL := List.getElem_mem hjL
                have hCg := HF1.out.1 _ hCm
                have hCl := mem_sum hCm
                have hCl2 := HF2.out
                have HCJ := Lib.hid hCj
                have hUx : OwnO wr (bp + 1) (.slice A5 K c5) R.LL := hU5.keepB (fun b h1 h2 => HKB.out b h1 h2)
                generalize R.LL[j] = C at *
                obtain ⟨g5, A6, c6, rfl, hcell, hK6, hg5⟩ := ownO_at hUx hCj
                obtain ⟨n6, hn6⟩ : ∃ n6, n6 = C.length := ⟨_, rfl⟩
                rw [← hn6] at hcell hK6 hCl
                have HMV := Lib.hid (ex_mv q A N c (R.v : Int) E' P A6 n6 c6 C wr hBx (ownK_rd hK6) (ownK_ne hK6 (by omega)) HPK.out hCg hn6 (by omega))
                have HN6 := Lib.hid hn6
                obtain ⟨p0, p1, p2, p3, p4, p5, p6, p7⟩ := prt_cells hPx
                have hq2 : q < w2.heap.size := hqw2
                have hOLn : OUT'.length ≤ 1000000 := by
                  have h1 := HOX.out
                  have h2 := hOlt.out
                  rw [h1, List.length_append, List.length_map, List.length_take]
                  omega
                have hw5z : bp < w5.heap.size := hbp5
                clear hCj hCm hCl hCl2 hjL hCg hn6
                go_wp2_with (first | (go_at_call 44; (with_reducible refine HMV.out.mono ?_); rintro e w7 ⟨g7, rfl, hK7, hB7, hN7⟩; have hO7 := hOx.nigh hN7 hq2; have hz7 := hN7.1.1; have hP7 := hPx.near hN7 (by omega); have hK8 := OwnG.low (base' := w2.heap.size) hK7 hNx.1.1) | (at_builtin; refine wpList_append_oc rfl _ _ rfl w2.heap.size u10 OUT' rfl hO7 _ 1 (some ⟨g7, 0, none⟩) n6 n6 (C.map (mvK P)) rfl _ rfl hK8 hOLn (Nat.le_trans hNx.1.1 hz7) ?_; intro v8 w8 hO8 hg8 hq8 hv8))
                have hqo : ∀ q', u10.ownBlock = some q' → q' ≠ q ∧ q' ≠ bp := fun q' e => by
                  have h1 := (hq8 q' e).1
                  have h2 := HAP.out q' e
                  omega
                have hB8 := (hB7.since ((Since.refl w7).alloc (.cells #[.slice (some ⟨g7, 0, none⟩) n6 n6] 64))).grown hg8 (fun e => (hqo q e).1 rfl)
                have hP8 := (hP7.since ((Since.refl w7).alloc (.cells #[.slice (some ⟨g7, 0, none⟩) n6 n6] 64))).grownX hg8 (fun e => (hqo bp e).2 rfl)
                have hN8 := ((hNx.trans hN7).since ((Since.refl w7).alloc (.cells #[.slice (some ⟨g7, 0, none⟩) n6 n6] 64))).grown hg8 (fun k e => (hq8 k e).1)
                have hz8 : w7.heap.size + 1 ≤ w8.heap.size := by have := hg8.size; simpa using this
                have hKB8 : ∀ b, bp + 1 ≤ b → b < w5.heap.size → w8.heap[b]? = w5.heap[b]? := fun b' h1 h2 => by
                  rw [hg8.block b' (by simp; omega) (fun e => by have := HAP.out b' e.symm; omega), ((Since.refl w7).alloc (.cells #[.slice (some ⟨g7, 0, none⟩) n6 n6] 64)).below.block b' (by omega), hN7.1.2 b' (by omega) (by omega)]
                  exact HKB.out b' h1 h2
                have hAP8 : ∀ q', v8.ownBlock = some q' → q' < bp ∨ w5.heap.size ≤ q' := fun q' e => by
                  rcases hv8 with h1 | h1
                  · exact HAP.out q' (h1.symm.trans e)
                  · rw [h1] at e
                    injection e with e
                    omega
                exact ⟨⟨j + 1, _, _, by omega, by first | rfl | go_num | simp, hO8, Lib.hid (by rw [HOX.out]; exact (outO_snoc HCJ.out).symm), hB8, Lib.hid (by rw [HEX.out, errM_comp, goodO_snoc HCJ.out]), hN8, hP8, Lib.hid hKB8, Lib.hid hAP8, by omega⟩, by simp [intOf]; omega⟩
              · obtain rfl : K = j := by omega
                have hjI : ¬ (K : Int) < (K : Int) := by omega
                have e1 : R.LL.take K = R.LL := by rw [HKK.out, List.take_length]
                have h1 := HOX.out
                have h2 := HEX.out
                rw [e1] at h1 h2
                have hst : StC (vis12 G f) RR Ps OUT' (i + 1) (R.v : Int) E' := by
                  cases hgo : goodO P R.LL
                  · refine .inr ⟨by rw [h2, hgo]; rfl, ?_⟩
                    rw [HRI.out]
                    exact parts_far (by rw [← HRV.out]; exact HRE.out) (by rw [← HRV.out]; exact hgo)
                  · refine .inl ⟨by rw [h2, hgo]; rfl, R.v, rfl, hfv, ?_⟩
                    rw [HRI.out, parts_good (by rw [← HRV.out]; exact HRE.out) (by rw [← HRV.out]; exact hgo), ← HRV.out, ← h1]
                have hl1 : OUT'.length ≤ 4096 * (i + 1) := by
                  have := hOlt.out
                  have h3 := HKK.out
                  rw [h1, List.length_append, List.length_map]; omega
                have hl2 : ∀ L, L ∈ OUT' → L.length ≤ 4096 := fun L' hL' => by
                  rw [h1, List.mem_append] at hL'
                  rcases hL' with h3 | h3
                  · exact HOL.out L' h3
                  · obtain ⟨M', hM', rfl⟩ := List.mem_map.1 h3
                    have h4 := mem_sum hM'
                    have h5 := HF2.out
                    rw [List.length_map]; omega
                have HS2 := Lib.hid hst
                have HL2 := Lib.hid hl2
                clear h1 h2 e1 hst hl2 hfv HKB HAP hPx
                go_wp2_with fail
                go_roundw
                case rel => first | exact ⟨i + 1, OUT', (R.v : Int), E', by omega, by first | rfl | go_num | simp, hOx, hl1, HL2, hBx, hNx, HS2⟩ | ((repeat apply Exists.intro); refine ⟨?_, rfl⟩; exact ⟨i + 1, OUT', (R.v : Int), E', by omega, by first | rfl | go_num | simp, hOx, hl1, HL2, hBx, hNx, HS2⟩)
                case measure => simp [intOf]; omega
          · have dR : (R.e == 0) = false := by simpa using hRe
            have HQ := Lib.hid (show RR = ⟨[], R.v, R.e⟩ by rw [HRI.out, HRV.out]; exact parts_err (by rw [← HRV.out]; exact hRe))
            clear hfin HRI HRV HVV HGG HPT
            generalize hEE : R.e = EE at *
            go_wp2_with (go_at_call 21; (with_reducible refine (HVI.out _ (HN02.out.trans (hN.since ((Since.refl wr).alloc _))) (hB.since ((Since.refl wr).alloc _))).mono ?_); rintro e w5 ⟨u5, V5, rfl, hB5, hN5, _⟩; obtain ⟨z0, z1, z2, z3, z4, z5⟩ := rdr_cells hB5.row)
            go_ret
            rw [HQ.out]
            exact ⟨_, V5, [], rfl, OwnO.nil _ _, ⟨by simp, by simp⟩, hB5, (HN02.out.trans (hN.since ((Since.refl wr).alloc _))).trans hN5, fun h => absurd h hRe⟩
        · have H6 : ∀ x, errF 6 x = 6 := fun x => by unfold errF; rw [if_neg (by omega)]
          have HVN := Lib.hid (fun (w4 : World) (hB4 : BoxX w4 q (RdrF A N c V 6)) => (ex_visit_no q A N c V _ 6 P.g (d + 1) w4 hB4 rfl hN63 (by rw [H6]; omega)).mono (show ∀ e w', _ → ∃ V', e = .returned (.slice none 0 0) ∧ BoxX w' q (RdrF A N c V' 6) ∧ Nigh q w4 w' from fun e w' ⟨a1, a2, a3⟩ => ⟨_, a1, by rw [H6] at a2; exact a2, a3⟩))
          have HR6 := Lib.hid hR6
          clear H6 hR6 HST HVV HGG HPT HDR
          go_wp2_with (go_at_call 21; (with_reducible refine (HVN.out _ (hB.since ((Since.refl wr).alloc _))).mono ?_); rintro e w5 ⟨V5, rfl, hB5, hN5⟩; obtain ⟨z0, z1, z2, z3, z4, z5⟩ := rdr_cells hB5.row)
          go_ret
          have hB6 : BoxX w5 q (RdrF A N c V5 RR.e) := by rw [HR6.out]; exact hB5
          exact ⟨_, V5, [], rfl, OwnO.nil _ _, ⟨by simp, by simp⟩, hB6, (HN02.out.trans (hN.since ((Since.refl wr).alloc _))).trans hN5, fun h => absurd h (by rw [HR6.out]; omega)⟩
      · obtain rfl : M = i := by omega
        have hiI : ¬ (M : Int) < (M : Int) := by omega
        have hS02 : w.heap.size ≤ w2.heap.size := HN02.out.1.1
        clear HVV HGG HPT
        go_wp2_with fail
        go_ret
        have hlen : ∀ L, L ∈ OUT → L.length ≤ 1000000 := fun L hL => by have := HOL.out L hL; omega
        rcases HST.out with ⟨rfl, vn, rfl, hvn, hRi⟩ | ⟨rfl, hR6⟩
        · rw [HM.out, List.drop_length] at hRi
          have hRe : RR = ⟨OUT, vn, 0⟩ := hRi
          rw [hRe]
          exact ⟨_, _, OUT, rfl, hO.lowO hS02, ⟨by omega, hlen⟩, hB, HN02.out.trans hN, fun _ => ⟨rfl, rfl⟩⟩
        · have hB6 : BoxX wr q (RdrF A N c V RR.e) := by rw [hR6]; exact hB
          exact ⟨_, _, OUT, rfl, hO.lowO hS02, ⟨by omega, hlen⟩, hB6, HN02.out.trans hN, fun h => absurd h (by rw [hR6]; omega)⟩
  · have hP0 := HNO.out h0
    subst hP0
    rw [if_pos h0]
    have HF := Lib.hid (HFL.out EE)
    clear HFL HNO HOK HVV HGG
    go_enter Try.func33, Try.ntmps33
    go_wp2_with (first | (go_at_call 43; (with_reducible refine HCR.out.mono ?_); rintro e w2 ⟨A1, c1, A2, c2, rfl, hO, _, _, hS2⟩; have hR2 := HRR.out.since hS2) | (go_at_call 30; (with_reducible refine (HF.out _ hR2).mono ?_); rintro e w3 ⟨rfl, hR3, hN3⟩))
    go_loopw [10, 27] (fun u y wr => y = .int .i64 0 ∧ u = .slice none 0 0 ∧ wr = w3) (fun _ y _ => 0)
    case atStart => exact ⟨rfl, rfl, rfl⟩
    case round =>
      obtain ⟨rfl, rfl, rfl⟩ := hrel
      go_wp2_with fail
      go_ret
      have hR3 : BoxX wr q (RdrF A N c (v0 : Int) EE) := by simpa using hR3
      exact ⟨_, _, [], rfl, OwnO.nil _ _, ⟨by simp, by simp⟩, hR3, ((Nigh.refl q w).since hS2).trans hN3, fun h => absurd h h0⟩
end Go.Proofs.Ytcjjcjpkmjbfkaa
