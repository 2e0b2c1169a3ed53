/-
  Texts of this seat, put together: each with its own head.
-/
import Derived.Test.YtdbenpncnkfliaaFlBi

/-
  Layer 11: contours gone the other way: flags changed in place; contours as functions.
-/
namespace Go.Proofs.Ytdbenpncnkfliaa
open Go.RowKit Go.ChangeShapes Go.WideShapes Go.Deep
set_option linter.unusedVariables false

theorem cellsK_setO : ∀ (L : List Kt) (i : Nat) (x : Bool), ∃ M : List Kt, M.length = L.length ∧ (cellsG knL L).set (i * 3 + 2) (.bool x) = cellsG knL M
  | [], i, x => ⟨[], rfl, by simp [cellsG]⟩
  | k :: L, 0, x => ⟨⟨k.x, k.y, x⟩ :: L, rfl, by simp [cellsG, knL]⟩
  | k :: L, i + 1, x => by
    obtain ⟨M, h1, h2⟩ := cellsK_setO L i x
    refine ⟨k :: M, by simp [h1], ?_⟩
    have e0 : cellsG knL (k :: L) = knL k ++ cellsG knL L := by simp [cellsG]
    have e1 : cellsG knL (k :: M) = knL k ++ cellsG knL M := by simp [cellsG]
    have el : (knL k).length = 3 := rfl
    rw [e0, e1, ← h2, show (i + 1) * 3 + 2 = (knL k).length + (i * 3 + 2) by rw [el]; omega, set_app]
theorem own_setO {w : World} {base q : Nat} {v : Value} {L : List Kt} (h : OwnK w base v L) (hq : v.ownBlock = some q) (i : Nat) (x : Bool) : ∃ M, M.length = L.length ∧ OwnK (w.setCell ⟨q, i * 3 + 2, none⟩ (.bool x)) base v M := by
  obtain ⟨A, c, rfl, _, _⟩ := OwnG.rd (by omega) knL_len h
  obtain ⟨M, h1, h2⟩ := cellsK_setO L i x
  rcases h.2 with ⟨h0, _⟩ | ⟨g, cap, cur, h0, _⟩
  · injection h0 with h0
    subst h0
    cases hq
  · injection h0 with h0
    subst h0
    have e : g = q := by injection hq
    subst e
    have h3 := (World.ownsRow.stored h (i * 3 + 2) (.bool x)).1
    rw [h2] at h3
    refine ⟨M, h1, ?_⟩
    unfold OwnK OwnG
    rw [h1]
    exact h3
theorem WrO.putO {w : World} {base q : Nat} {v vr : Value} {LL : List (List Kt)} {R : List Kt} (h : WrO w base v LL) (hr : OwnK w base vr R) (hq : vr.ownBlock = some q) (i : Nat) (x : Bool) : WrO (w.setCell ⟨q, i * 3 + 2, none⟩ (.bool x)) base v LL := by
  obtain ⟨hs, hl, ho, hK⟩ := h
  have hne : 39 ≠ 23 := by decide
  have hkb : KeepBut q w (w.setCell ⟨q, i * 3 + 2, none⟩ (.bool x)) := (KeepBut.refl q w).set _ _
  refine ⟨hs, hl, OwnG.but ho hkb (own_apart hr ho hne hq), fun j y L h1 h2 => ?_⟩
  obtain ⟨M, e, hM⟩ := hK j y L h1 h2
  by_cases hb : (Value.slice y.A y.n y.c).ownBlock = some q
  · obtain ⟨M', e', hM'⟩ := own_setO hM hb i x
    exact ⟨M', e'.trans e, hM'⟩
  · exact ⟨M, e, OwnG.but hM hkb hb⟩
def Kz : Kt := ⟨0, 0, false⟩
def fxL (L : List Kt) (j : Nat) : Int := (L.getD j Kz).x
def fyL (L : List Kt) (j : Nat) : Int := (L.getD j Kz).y
def foL (L : List Kt) (j : Nat) : Bool := (L.getD j Kz).o
theorem RdKl.fn {w : World} {B : Nat} {A : Option Addr} {L : List Kt} (h : RdKl w B A L) : RdK w B A L.length (fxL L) (fyL L) (foL L) := fun hn => by
  obtain ⟨b, o, rfl, hb, hc⟩ := h hn
  refine ⟨b, o, rfl, hb, fun j hj => ?_⟩
  have e : L[j]? = some (L.getD j Kz) := by rw [List.getD_eq_getElem?_getD, List.getElem?_eq_getElem hj]; rfl
  exact ⟨hc j _ e 0 (by omega), hc j _ e 1 (by omega), hc j _ e 2 (by omega)⟩
theorem fn_in {L : List Kt} (h : ∀ k, k ∈ L → InP k.x k.y) : ∀ j, j < L.length → InP (fxL L j) (fyL L j) := fun j hj => by
  have e : L.getD j Kz = L[j] := by rw [List.getD_eq_getElem?_getD, List.getElem?_eq_getElem hj]; rfl
  unfold fxL fyL
  rw [e]
  exact h _ (List.getElem_mem hj)
theorem rev_get {L : List Kt} {j : Nat} (hj : j < L.length) : L.reverse.getD j Kz = L.getD (L.length - 1 - j) Kz := by
  rw [List.getD_eq_getElem?_getD, List.getElem?_reverse hj, ← List.getD_eq_getElem?_getD]
/-- What the law asks of the pieces. -/
theorem segs_rev (L : List Kt) : (segsL L.length (fxL L) (fyL L) (foL L)).Perm ((segsL L.length (fxL L.reverse) (fyL L.reverse) (foL L.reverse)).map (fb true)) := by
  have e : fb true = flipS := by funext s; rfl
  rw [e]
  exact segs_flipped (fun j hj => by unfold fxL; rw [rev_get hj]) (fun j hj => by unfold fyL; rw [rev_get hj]) (fun j hj => by unfold foL; rw [rev_get hj])
/-- A contour of it: its header's cell, and a knot's first cell. -/
theorem WrO.rowO {w : World} {base : Nat} {v : Value} {LL : List (List Kt)} (h : WrO w base v LL) {j : Nat} {L : List Kt} (hj : LL[j]? = some L) : ∃ g c A' c', v = .slice (some ⟨g, 0, none⟩) LL.length c ∧ g < w.heap.size ∧ w.cell? ⟨g, j, none⟩ = some (.slice A' L.length c') ∧
    ∀ i, i < L.length → ∃ q x M, A' = some ⟨q, 0, none⟩ ∧ base ≤ q ∧ q < w.heap.size ∧ g ≠ q ∧ w.cell? ⟨q, i * 3 + 2, none⟩ = some (.bool x) ∧ w.frozen? ⟨q, i * 3 + 2, none⟩ = false ∧ OwnK w base (.slice A' L.length c') M := by
  obtain ⟨hs, hl, ho, hK⟩ := h
  have hne : 23 ≠ 39 := by decide
  have hjl : j < LL.length := by
    rcases Nat.lt_or_ge j LL.length with h | h
    · exact h
    · rw [List.getElem?_eq_none h] at hj; cases hj
  have h1 : hs[j]? = some hs[j] := List.getElem?_eq_getElem (by omega)
  obtain ⟨M, e, hM⟩ := hK j _ L h1 hj
  generalize hs[j] = x at *
  obtain ⟨A, c, rfl, _, hr⟩ := OwnG.rd (by omega) hdL_len ho
  rcases ho.2 with ⟨h0, h0'⟩ | ⟨g, cap, cur, h0, _⟩
  · omega
  · injection h0 with h0 h0a h0b
    subst h0
    obtain ⟨b, o, e1, hb, hc⟩ := hr (by omega)
    injection e1 with e1
    injection e1 with e1 e2
    subst e1 e2
    obtain ⟨A2, c2, e3, _, hr2⟩ := OwnG.rd (by omega) knL_len hM
    injection e3 with e3 e4 e5
    have h3 := hc j x h1 0 (by omega)
    rw [Nat.zero_add, Nat.mul_one, Nat.add_zero] at h3
    refine ⟨g, c, x.A, x.c, by rw [hl], hb, by rw [h3, ← e, ← e4]; rfl, fun i hi => ?_⟩
    obtain ⟨q, o2, e6, hq, hc2⟩ := hr2 (by omega)
    rcases hM.2 with ⟨h7, h7'⟩ | ⟨g', cap', cur', h7, hb', _⟩
    · omega
    · injection h7 with h7 h7a h7b
      rw [e3, e6] at h7
      injection h7 with h7
      injection h7 with h7 h8
      subst h7 h8
      have h9 := hc2 i _ (List.getElem?_eq_getElem (by omega)) 2 (by omega)
      rw [Nat.zero_add] at h9
      have hM' : OwnK w base (.slice x.A L.length x.c) M := by rw [← e, ← e4]; exact hM
      have hA : x.A = some ⟨q, 0, none⟩ := by rw [e3, e6]
      have hor : w.ownsRow base 39 3 (.slice (some ⟨q, 0, none⟩) M.length x.c) M.length (cellsG knL M) := by
        have := hM
        unfold OwnK OwnG at this
        rw [hA, e4] at this
        exact this
      refine ⟨q, M[i].o, M, hA, hb', hq, fun eg => own_apart ho hM hne (q := g) rfl (by rw [hA, eg]; rfl), h9, World.ownsRow.frozenAt hor _, hM'⟩

theorem lens_le_rev {LL : List (List Kt)} {m : Nat} (h : ∀ L, L ∈ LL → L.length ≤ m) : ∀ L, L ∈ LL.map List.reverse → L.length ≤ m := fun L hL => by
  rw [List.mem_map] at hL
  obtain ⟨M, hM, rfl⟩ := hL
  rw [List.length_reverse]
  exact h M hM
theorem ou_flip_s (A : Option Addr) (c : Nat) (LL : List (List Kt)) (w : World) (h : RdOL w w.heap.size A LL) (hn : LL.length ≤ 1000000) (hm : ∀ L, L ∈ LL → L.length ≤ 1000000) :
    Calls Try.prog 23 #[.slice A LL.length c] w fun e w' => ∃ A' c' base, e = .returned (.slice A' LL.length c') ∧ w.heap.size ≤ base ∧ OwnO w' base (.slice A' LL.length c') (LL.map List.reverse) ∧ Since w w' := by
  refine (ou_flip A c LL w h hn hm).mono ?_
  rintro e w' ⟨v, base, rfl, hb, hO, hS⟩
  obtain ⟨A', c', rfl, _, _⟩ := hO.rd
  rw [List.length_map] at hO ⊢
  exact ⟨A', c', base, rfl, hb, hO, hS⟩
theorem same_rev (A A' : Option Addr) (c c' : Nat) (LL : List (List Kt)) (base : Nat) (w : World) (h : OwnO w base (.slice A LL.length c) (LL.map List.reverse)) (h' : RdOL w w.heap.size A' (LL.map List.reverse)) (hn : LL.length ≤ maxLen) (hm : ∀ L, L ∈ LL → L.length ≤ maxLen) :
    Calls Try.prog 18 #[.slice A LL.length c, .slice A' LL.length c'] w fun e w' => e = .returned (.bool true) ∧ Since w w' := by
  obtain ⟨A2, c2, e, _, hr⟩ := h.rd
  injection e with e1 e2 e3
  subst e1
  have hx := rf_sameL A A' c c' (LL.map List.reverse) w hr h' (by rw [List.length_map]; exact hn) (lens_le_rev hm)
  rw [List.length_map] at hx
  exact hx
set_option maxRecDepth 1000000 in
set_option maxHeartbeats 32000000 in
theorem walk_outlineflips (A : Option Addr) (c : Nat) (LL : List (List Kt)) (w : World) (h : RdOL w w.heap.size A LL) (hn : LL.length ≤ maxLen) (hm : ∀ L, L ∈ LL → L.length ≤ maxLen) (hin : ∀ L, L ∈ LL → ∀ k, k ∈ L → InP k.x k.y) :
    Calls Try.prog 6 #[.slice A LL.length c] w fun e w' => e = .returned (.bool true) ∧ Since w w' := by
  have hgr := fun w (h : RdOL w w.heap.size A LL) => rf_great A c LL w h hn hm
  have HG := Lib.hid hgr
  have HIN := Lib.hid hin
  clear hgr hin
  go_enter Try.func6, Try.ntmps6
  go_upto_if 11 with (first | (go_at_call 14; (with_reducible refine (alive11 _).mono ?_); rintro e w1 ⟨rfl, hS1⟩; have hR1 := h.on hS1; clear h) | (go_at_call 21; (with_reducible refine (HG.out _ hR1).mono ?_); rintro e w2 ⟨g, rfl, hng, hS2⟩; have hR2 := hR1.on hS2; have hT2 := hS1.trans hS2; have HNG := Lib.hid hng; clear hng hR1 hS1 hS2))
  cases g
  · obtain ⟨n6, n5, n9⟩ := HNG.out rfl
    have n5' : ∀ L, L ∈ LL → L.length ≤ 1000000 := fun L hL => by have := n5 L hL; omega
    have N5 := Lib.hid n5'
    have M5 := Lib.hid n5
    clear n5 n5' HNG HG hm
    have hle : ∀ L, L ∈ LL → L.length ≤ maxLen := fun L hL => by have := N5.out L hL; simp only [maxLen]; omega
    have hLE := Lib.hid hle
    clear hle
    have tok1 := True.intro
    have hne : ∀ (S : Nat) (w : World), (if (S : Int) = (S : Int) then true else false) = true := fun S w => by simp
    clear hne
    go_upto_region 9 with (first | (go_at_call 22; (with_reducible refine (rf_copy A c LL _ hR2 (by omega) N5.out).mono ?_); rintro e w3 ⟨A3, c3, rfl, hR3, hS3⟩; have hR23 := hR2.on hS3; have hT3 := hT2.trans hS3; clear hR2 hT2) | (go_at_call 23; (with_reducible refine (ou_flip_s A3 c3 LL _ hR3 (by omega) N5.out).mono ?_); rintro e w4 ⟨A4, c4, base, rfl, hbase, hO4, hS4⟩; have hR34 := hR3.on hS4; have hR24 := hR23.on hS4) | (go_at_call 24; (with_reducible refine (rf_flip A c LL _ hR24 (by omega) N5.out).mono ?_); rintro e w5 ⟨A5, c5, rfl, hR5, hS5⟩; have hO5 := hO4.since hS5; have hR35 := hR34.on hS5; have hR25 := hR24.on hS5) | (go_at_call 18; (with_reducible refine (same_rev A4 A5 c4 c5 LL base _ hO5 hR5 hn hLE.out).mono ?_); rintro e w6 ⟨rfl, hS6⟩; have hO6 := hO5.since hS6; have hR36 := hR35.on hS6; have hR26 := hR25.on hS6; clear hR5) | (go_at_call 25; (with_reducible refine (ou_knots A3 c3 LL _ hR36 n6 M5.out).mono ?_); rintro e w7 ⟨rfl, hS7⟩; have hO7 := hO6.since hS7; have hR37 := hR36.on hS7; have hR27 := hR26.on hS7) | (go_at_call 26; (with_reducible refine (rf_knots A c LL _ hR27 n6 M5.out).mono ?_); rintro e w8 ⟨rfl, hS8⟩; have hO8 := hO7.since hS8; have hR38 := hR37.on hS8; have hR28 := hR27.on hS8) | (go_at_call 18; (with_reducible refine (rf_sameL A3 A c3 c LL _ hR38 hR28 hn hLE.out).mono ?_); rintro e w9 ⟨rfl, hS9⟩; have hO9 := hO8.since hS9; have hR39 := hR38.on hS9; have hR29 := hR28.on hS9; have hT9 : Since w3 w9 := ((((hS4.trans hS5).trans hS6).trans hS7).trans hS8).trans hS9))
    clear hO4 hO5 hO6 hO7 hO8 hR34 hR24 hR35 hR25 hR36 hR26 hR37 hR27 hR38 hR28 hS4 hS5 hS6 hS7 hS8 hS9 tok1
    obtain ⟨A9, c9, hv9, hlc9, hP9⟩ := hO9.rd
    obtain ⟨N, hN⟩ : ∃ N, N = LL.length := ⟨_, rfl⟩
    have HN := Lib.hid hN
    rw [List.length_map] at hv9
    injection hv9 with hv9 hv9a hv9b
    rw [← hv9] at hP9
    clear hlc9
    clear hv9 hv9a hv9b
    rw [← hN] at hO9 hn n6 ⊢
    have HO9 := Lib.hid hO9
    have hNI : (N : Int) ≤ 600 := by omega
    clear hN hO9
    have hwb : w3.heap.size ≤ base := hbase
    go_wp2_with fail
    go_loopw [36] (fun y wr => ∃ i : Nat, i ≤ N ∧ y = .int .i64 (i : Int) ∧ Since w9 wr) (fun y _ => N - (intOf y).toNat)
    case atStart => exact ⟨0, by omega, rfl, Since.refl _⟩
    case round =>
      obtain ⟨i, hi, rfl, hSr⟩ := hrel
      by_cases hiN : i < N
      · have hiN' : (i : Int) < N := by omega
        have hiL : i < LL.length := by rw [← HN.out]; exact hiN
        have hL : LL[i]? = some LL[i] := List.getElem?_eq_getElem hiL
        have hL2 : (LL.map List.reverse)[i]? = some LL[i].reverse := by rw [List.getElem?_map, hL]; rfl
        have hml := M5.out _ (List.getElem_mem hiL)
        have hfi := fn_in (HIN.out _ (List.getElem_mem hiL))
        have hfr := fn_in (L := LL[i].reverse) (fun k hk => HIN.out _ (List.getElem_mem hiL) k (List.mem_reverse.1 hk))
        obtain ⟨b, o, A1, c1', rfl, hb, hc1, hK1⟩ := (hR29.on hSr).row hL
        obtain ⟨g, og, A2, c2', rfl, hg, hc2, hK2⟩ := (hP9.on hSr).row hL2
        have hF1 := hK1.fn
        have hF2 := hK2.fn
        have hpm := segs_rev LL[i]
        rw [List.length_reverse] at hc2 hF2 hfr
        generalize LL[i] = L at *
        obtain ⟨n, hnl⟩ : ∃ n, n = L.length := ⟨_, rfl⟩
        rw [← hnl] at hc1 hc2 hF1 hF2 hfi hfr hpm hml
        have HPM := Lib.hid hpm
        have HF1 := Lib.hid hfi
        have HF2 := Lib.hid hfr
        have hl1 := segsL_len n (fxL L) (fyL L) (foL L)
        clear hnl hL hL2 hiL hK1 hK2 hpm hfi hfr
        go_upto_region 12 with fail
        go_cut [58] (fun z wx => z = .bool false ∧ Since wr wx)
        case first =>
          by_cases h3 : n < 300
          · have d1 : decide ((n : Int) < 300) = true := by simp; omega
            go_region_held3 (fun w' => w'.cell? ⟨b, o + i, none⟩ = some (.slice A1 n c1') ∧ w'.cell? ⟨g, og + i, none⟩ = some (.slice A2 n c2')) ((refine ⟨?_, ?_⟩ <;> (first | with_reducible assumption | exact k1 | exact k2 | exact hc1 | exact hc2))) ((first
              | (go_at_call 15; (with_reducible refine (ou_segs_rd A1 n c1' (fxL L) (fyL L) (foL L) _ (hF1.on (by (repeat (first | with_reducible (exact Since.refl _) | with_reducible assumption | with_reducible (refine Since.drew ?_) | with_reducible (refine Since.drewN ?_ _) | with_reducible (refine Since.alloc ?_ _) | (with_reducible (refine Since.setCell ?_ ?_ _); rotate_left; focus (first | (simp; done) | (simp; omega) | omega)) | (with_reducible (refine Since.trans ?_ (by with_reducible assumption))))))) HF1.out (by omega)).mono ?_); rintro e w10 ⟨A8, c8, rfl, hR8, hS10⟩; have hT10 : Since wr w10 := (by (repeat (first | with_reducible (exact Since.refl _) | with_reducible assumption | with_reducible (refine Since.drew ?_) | with_reducible (refine Since.drewN ?_ _) | with_reducible (refine Since.alloc ?_ _) | (with_reducible (refine Since.setCell ?_ ?_ _); rotate_left; focus (first | (simp; done) | (simp; omega) | omega)) | (with_reducible (refine Since.trans ?_ (by with_reducible assumption)))))); have k1 := (hT10.1 _ _ hb).trans hc1; have k2 := (hT10.1 _ _ hg).trans hc2)
              | (go_at_call 15; (with_reducible refine (ou_segs_rd A2 n c2' (fxL L.reverse) (fyL L.reverse) (foL L.reverse) _ (hF2.on (by (repeat (first | with_reducible (exact Since.refl _) | with_reducible assumption | with_reducible (refine Since.drew ?_) | with_reducible (refine Since.drewN ?_ _) | with_reducible (refine Since.alloc ?_ _) | (with_reducible (refine Since.setCell ?_ ?_ _); rotate_left; focus (first | (simp; done) | (simp; omega) | omega)) | (with_reducible (refine Since.trans ?_ (by with_reducible assumption))))))) HF2.out (by omega)).mono ?_); rintro e w11 ⟨A9, c9, rfl, hR9, hS11⟩; have hT11 : Since w10 w11 := (by (repeat (first | with_reducible (exact Since.refl _) | with_reducible assumption | with_reducible (refine Since.drew ?_) | with_reducible (refine Since.drewN ?_ _) | with_reducible (refine Since.alloc ?_ _) | (with_reducible (refine Since.setCell ?_ ?_ _); rotate_left; focus (first | (simp; done) | (simp; omega) | omega)) | (with_reducible (refine Since.trans ?_ (by with_reducible assumption)))))); have hR89 := hR8.on hT11; have hW11 := hT10.trans hT11; clear k1 k2; have k1 := (hW11.1 _ _ hb).trans hc1; have k2 := (hW11.1 _ _ hg).trans hc2)
              | (go_at_call 27; (with_reducible refine (rf_alike A8 A9 c8 c9 _ _ true _ (hR89.on (by (repeat (first | with_reducible (exact Since.refl _) | with_reducible assumption | with_reducible (refine Since.drew ?_) | with_reducible (refine Since.drewN ?_ _) | with_reducible (refine Since.alloc ?_ _) | (with_reducible (refine Since.setCell ?_ ?_ _); rotate_left; focus (first | (simp; done) | (simp; omega) | omega)) | (with_reducible (refine Since.trans ?_ (by with_reducible assumption))))))) (hR9.on (by (repeat (first | with_reducible (exact Since.refl _) | with_reducible assumption | with_reducible (refine Since.drew ?_) | with_reducible (refine Since.drewN ?_ _) | with_reducible (refine Since.alloc ?_ _) | (with_reducible (refine Since.setCell ?_ ?_ _); rotate_left; focus (first | (simp; done) | (simp; omega) | omega)) | (with_reducible (refine Since.trans ?_ (by with_reducible assumption))))))) HPM.out (by omega)).mono ?_); rintro e w12 ⟨rfl, hS12⟩; have hT12 : Since wr w12 := (by (repeat (first | with_reducible (exact Since.refl _) | with_reducible assumption | with_reducible (refine Since.drew ?_) | with_reducible (refine Since.drewN ?_ _) | with_reducible (refine Since.alloc ?_ _) | (with_reducible (refine Since.setCell ?_ ?_ _); rotate_left; focus (first | (simp; done) | (simp; omega) | omega)) | (with_reducible (refine Since.trans ?_ (by with_reducible assumption)))))); clear k1 k2; have k1 := (hT12.1 _ _ hb).trans hc1; have k2 := (hT12.1 _ _ hg).trans hc2)))
            all_goals (go_wp2_with fail)
            all_goals go_meet
            all_goals exact ⟨rfl, by (repeat (first | with_reducible (exact Since.refl _) | with_reducible assumption | with_reducible (refine Since.drew ?_) | with_reducible (refine Since.drewN ?_ _) | with_reducible (refine Since.alloc ?_ _) | (with_reducible (refine Since.setCell ?_ ?_ _); rotate_left; focus (first | (simp; done) | (simp; omega) | omega)) | (with_reducible (refine Since.trans ?_ (by with_reducible assumption)))))⟩
          · have d1 : decide ((n : Int) < 300) = false := by simp; omega
            go_region
            all_goals (go_wp2_with fail)
            all_goals go_meet
            all_goals exact ⟨rfl, by (repeat (first | with_reducible (exact Since.refl _) | with_reducible assumption | with_reducible (refine Since.drew ?_) | with_reducible (refine Since.drewN ?_ _) | with_reducible (refine Since.alloc ?_ _) | (with_reducible (refine Since.setCell ?_ ?_ _); rotate_left; focus (first | (simp; done) | (simp; omega) | omega)) | (with_reducible (refine Since.trans ?_ (by with_reducible assumption)))))⟩
        obtain ⟨rfl, hS13⟩ := hcut
        go_wp2_with fail
        go_roundw
        case rel => exact ⟨i + 1, by omega, by go_num, hSr.trans hS13⟩
        case measure => simp [intOf]; omega
      · obtain rfl : N = i := by omega
        have hWr := (HO9.out.since hSr).wr
        have hSr9 := hT9.trans hSr
        go_wp2_with fail
        go_loopw [62] (fun y wr => ∃ i : Nat, i ≤ N ∧ y = .int .i64 (i : Int) ∧ WrO wr base (.slice A4 N c4) (LL.map List.reverse) ∧ Since w3 wr) (fun y _ => N - (intOf y).toNat)
        case atStart => exact ⟨0, by omega, rfl, hWr, hSr9⟩
        case round =>
          obtain ⟨i, hi, rfl, hW, hS⟩ := hrel
          by_cases hiN : i < N
          · have hiN' : (i : Int) < N := by omega
            have hiL : i < LL.length := by rw [← HN.out]; exact hiN
            have hL : (LL.map List.reverse)[i]? = some (LL[i].reverse) := by rw [List.getElem?_map, List.getElem?_eq_getElem hiL]; rfl
            have hml : (LL[i].reverse).length ≤ 1000000 := by rw [List.length_reverse]; exact N5.out _ (List.getElem_mem hiL)
            have HL := Lib.hid hL
            generalize LL[i].reverse = L at *
            clear hL hiL
            obtain ⟨g, c5', A', c', hv, hg, hcell, hrow⟩ := hW.rowO HL.out
            injection hv with hv hva hvb
            subst hv
            clear hva hvb hrow
            obtain ⟨m, hm⟩ : ∃ m, m = L.length := ⟨_, rfl⟩
            rw [← hm] at hml hcell
            have HMM := Lib.hid hm
            clear hm
            go_wp2_with fail
            go_loopw [70] (fun y wr' => ∃ k : Nat, k ≤ m ∧ y = .int .i64 (k : Int) ∧ WrO wr' base (.slice (some ⟨g, 0, none⟩) N c4) (LL.map List.reverse) ∧ Since w3 wr') (fun y _ => m - (intOf y).toNat)
            case atStart => exact ⟨0, by omega, rfl, hW, hS⟩
            case round =>
              obtain ⟨k, hk, rfl, hW, hS⟩ := hrel
              by_cases hkm : k < m
              · have hkm' : (k : Int) < m := by omega
                obtain ⟨g2, c6, A2, c2, hv, hg2, hcell2, hrow⟩ := hW.rowO HL.out
                injection hv with hv hva hvb
                injection hv with hv
                injection hv with hv hv2
                subst hv
                obtain ⟨q, x, M, rfl, hbq, hqs, hgq, hx, hf, hO⟩ := hrow k (by rw [← HMM.out]; exact hkm)
                rw [← HMM.out] at hcell2
                have HO := Lib.hid hO
                have HW := Lib.hid hW
                have hqw : w3.heap.size ≤ q := by omega
                clear hva hvb hv2 hrow hO hW hcell hg
                go_upto_region 21 with fail
                go_region
                all_goals (go_wp2_with fail)
                all_goals go_roundw
                all_goals first
                  | (simp [intOf]; omega)
                  | exact ⟨k + 1, by omega, by go_num, (HW.out.since (by (repeat (first | with_reducible (exact Since.refl _) | with_reducible assumption | with_reducible (refine Since.drew ?_) | with_reducible (refine Since.drewN ?_ _) | with_reducible (refine Since.alloc ?_ _) | (with_reducible (refine Since.setCell ?_ ?_ _); rotate_left; focus (first | (simp; done) | (simp; omega) | omega)) | (with_reducible (refine Since.trans ?_ (by with_reducible assumption))))))).putO (OwnG.since HO.out (by (repeat (first | with_reducible (exact Since.refl _) | with_reducible assumption | with_reducible (refine Since.drew ?_) | with_reducible (refine Since.drewN ?_ _) | with_reducible (refine Since.alloc ?_ _) | (with_reducible (refine Since.setCell ?_ ?_ _); rotate_left; focus (first | (simp; done) | (simp; omega) | omega)) | (with_reducible (refine Since.trans ?_ (by with_reducible assumption))))))) rfl k _, (hS.drew).setCell hqw _⟩
              · obtain rfl : m = k := by omega
                go_wp2_with fail
                go_roundw
                case rel => exact ⟨i + 1, by omega, by go_num, hW, hS⟩
                case measure => simp [intOf]; omega
          · obtain rfl : N = i := by omega
            have hRa := hR3.on hS
            have hRb := hR23.on hS
            have hsm := rf_sameL A3 A c3 c LL _ hRa hRb (by rw [← HN.out]; exact hn) hLE.out
            rw [← HN.out] at hsm
            go_wp2_with (go_at_call 18; (with_reducible refine hsm.mono ?_); rintro e w7 ⟨rfl, hS7⟩)
            go_ret
            exact ⟨rfl, (hT3.trans hS).trans hS7⟩
  · go_wp2_with fail
    go_ret
    exact ⟨rfl, hT2⟩
end Go.Proofs.Ytdbenpncnkfliaa

/-
  Layer 14: what holds of all knots and their middles holds of the pieces' points.
-/
namespace Go.Proofs.Ytdbenpncnkfliaa
open Go.RowKit Go.ChangeShapes Go.WideShapes Go.Deep
set_option linter.unusedVariables false

def SgAll (G : Int → Int → Prop) (s : Sg) : Prop := G s.ax s.ay ∧ G s.bx s.bz ∧ (s.k = true → G s.cx s.cy) ∧ (s.k = false → s.cx = 0 ∧ s.cy = 0)
theorem addS_all {G : Int → Int → Prop} {L : List Sg} {s : Sg} (h : ∀ s ∈ L, SgAll G s) (hs : SgAll G s) : ∀ t ∈ addS L s, SgAll G t := by
  intro t ht
  unfold addS at ht
  split at ht
  · rcases List.mem_append.1 ht with ht | ht
    · exact h t ht
    · simp only [List.mem_singleton] at ht; subst ht; exact hs
  · exact h t ht
section
variable {G : Int → Int → Prop} (hmid : ∀ x y u v, G x y → G u v → G (mid x u) (mid y v))
include hmid
theorem runS_all {f n : Nat} {X Y : Nat → Int} {O : Nat → Bool} (hn : 0 < n) (hX : ∀ j, j < n → G (X j) (Y j)) {h : Int × Int} (h0 : G h.1 h.2) : ∀ i, G (runS f n X Y O h i).1.1 (runS f n X Y O h i).1.2 ∧ ∀ s ∈ (runS f n X Y O h i).2, SgAll G s
  | 0 => ⟨h0, fun s hs => by simp [runS] at hs⟩
  | i + 1 => by
    obtain ⟨ih1, ih2⟩ := runS_all hn hX h0 i
    have g1 := hX _ (Nat.mod_lt (f + i) hn)
    have g2 := hX _ (Nat.mod_lt (f + i + 1) hn)
    unfold runS stepS
    split
    · split
      · exact ⟨g2, addS_all ih2 ⟨ih1, g2, fun e => (by cases e), fun _ => ⟨rfl, rfl⟩⟩⟩
      · exact ⟨ih1, ih2⟩
    · split
      · exact ⟨g2, addS_all ih2 ⟨ih1, g2, fun _ => g1, fun e => (by cases e)⟩⟩
      · exact ⟨hmid _ _ _ _ g1 g2, addS_all ih2 ⟨ih1, hmid _ _ _ _ g1 g2, fun _ => g1, fun e => (by cases e)⟩⟩
theorem segs_all {n : Nat} {X Y : Nat → Int} {O : Nat → Bool} (hX : ∀ j, j < n → G (X j) (Y j)) : ∀ s ∈ segsL n X Y O, SgAll G s := by
  intro s hs
  unfold segsL at hs
  split at hs
  · cases hs
  · rename_i hn
    have hn0 : 0 < n := by omega
    refine (runS_all hmid hn0 hX ?_ n).2 s hs
    unfold startS
    split
    · rename_i h
      exact hX _ h
    · exact hmid _ _ _ _ (hX _ (by omega)) (hX _ hn0)
end
theorem mid_good (x y u v : Int) (h : goodB x y = true) (h' : goodB u v = true) : goodB (mid x u) (mid y v) = true := by
  unfold goodB mid at *
  simp at *
  omega
def sgsK (L : List Kt) : List Sg := segsL L.length (fxL L) (fyL L) (foL L)
def goodK (L : List Kt) : Bool := L.all fun k => goodB k.x k.y
theorem goodK_fn {L : List Kt} (h : goodK L = true) : ∀ j, j < L.length → goodB (fxL L j) (fyL L j) = true := fun j hj => by
  have e : L.getD j Kz = L[j] := by rw [List.getD_eq_getElem?_getD, List.getElem?_eq_getElem hj]; rfl
  unfold fxL fyL
  rw [e]
  exact List.all_eq_true.1 h _ (List.getElem_mem hj)
theorem good_inP {x y : Int} (h : goodB x y = true) : InP x y := by
  unfold goodB at h
  simp at h
  unfold InP In64
  omega
theorem sgs_in {L : List Kt} (h : goodK L = true) : ∀ s ∈ sgsK L, inR s = true ∧ s.wf := fun s hs => by
  obtain ⟨h1, h2, h3, h4⟩ := segs_all (G := fun x y => goodB x y = true) mid_good (goodK_fn h) s hs
  have hc : InP s.cx s.cy ∧ (s.k = false ∨ goodB s.cx s.cy = true) := by
    cases hk : s.k
    · obtain ⟨e1, e2⟩ := h4 hk
      rw [e1, e2]
      exact ⟨by unfold InP In64; omega, .inl rfl⟩
    · exact ⟨good_inP (h3 hk), .inr (h3 hk)⟩
  refine ⟨?_, good_inP h1, hc.1, good_inP h2⟩
  unfold inR
  rw [h1, h2]
  rcases hc.2 with e | e <;> simp [e]
theorem sgs_len (L : List Kt) : (sgsK L).length ≤ L.length := by
  unfold sgsK segsL
  split
  · simp
  · exact runS_len _ _ _ _ _ _ _
/-- What an outline's lines are. -/
def sgsO (LL : List (List Kt)) : List Sg := LL.flatMap sgsK
def linesE (LL : List (List Kt)) : Int := if 4096 < sumL LL then 7 else if LL.all goodK = false then 6 else if 4096 < (allL (sgsO LL)).length then 7 else 0
def linesL (LL : List (List Kt)) : List Lq := if linesE LL = 0 then allL (sgsO LL) else []
end Go.Proofs.Ytdbenpncnkfliaa

/-
  Layer 14: 'Lines', walked.
-/
namespace Go.Proofs.Ytdbenpncnkfliaa
open Go.RowKit Go.ChangeShapes Go.WideShapes Go.Deep
set_option linter.unusedVariables false

theorem wayL_len (m : Int) (hm : m ≤ 4097) : ∀ (S : List Sg) (L : List Lq), L.length ≤ 5000 → (wayL m S L).length ≤ 5000
  | [], L, h => h
  | s :: S, L, h => by
    simp only [wayL]
    split
    · exact h
    · have := segW_len s L
      exact wayL_len m hm S _ (by omega)
theorem sgsO_take {LL : List (List Kt)} {j : Nat} {L : List Kt} (hj : LL[j]? = some L) : sgsO (LL.take (j + 1)) = sgsO (LL.take j) ++ sgsK L := by
  have hjl : j < LL.length := by
    rcases Nat.lt_or_ge j LL.length with h | h
    · exact h
    · rw [List.getElem?_eq_none h] at hj; cases hj
  have e : LL[j] = L := by rw [List.getElem?_eq_getElem hjl] at hj; simpa using hj
  unfold sgsO
  rw [List.take_succ_eq_append_getElem hjl, List.flatMap_append, e]
  simp
theorem all_take_le (LL : List (List Kt)) (j : Nat) : (allL (sgsO (LL.take j))).length ≤ (allL (sgsO LL)).length := by
  have e : sgsO LL = sgsO (LL.take j) ++ sgsO (LL.drop j) := by
    unfold sgsO
    rw [← List.flatMap_append, List.take_append_drop]
  rw [e, allL_append, List.length_append]
  omega
theorem linesE_full {LL : List (List Kt)} (h : 4096 < sumL LL) : linesE LL = 7 := by unfold linesE; rw [if_pos h]
theorem linesE_bad {LL : List (List Kt)} (h : ¬ 4096 < sumL LL) (hg : LL.all goodK = false) : linesE LL = 6 := by unfold linesE; rw [if_neg h, if_pos hg]
theorem linesE_many {LL : List (List Kt)} (h : ¬ 4096 < sumL LL) (hg : LL.all goodK = true) (hl : 4096 < (allL (sgsO LL)).length) : linesE LL = 7 := by unfold linesE; rw [if_neg h, if_neg (by simp [hg]), if_pos hl]
theorem linesE_ok {LL : List (List Kt)} (h : ¬ 4096 < sumL LL) (hg : LL.all goodK = true) (hl : ¬ 4096 < (allL (sgsO LL)).length) : linesE LL = 0 := by unfold linesE; rw [if_neg h, if_neg (by simp [hg]), if_neg hl]
theorem linesL_no {LL : List (List Kt)} (h : linesE LL ≠ 0) : linesL LL = [] := by unfold linesL; rw [if_neg h]
theorem linesL_ok {LL : List (List Kt)} (h : linesE LL = 0) : linesL LL = allL (sgsO LL) := by unfold linesL; rw [if_pos h]
theorem all_bad {LL : List (List Kt)} {j k : Nat} {L : List Kt} {x : Kt} (hj : LL[j]? = some L) (hk : L[k]? = some x) (h : goodB x.x x.y = false) : LL.all goodK = false := by
  rw [List.all_eq_false]
  refine ⟨L, List.mem_of_getElem? hj, ?_⟩
  rw [Bool.not_eq_true]
  unfold goodK
  rw [List.all_eq_false]
  exact ⟨x, List.mem_of_getElem? hk, by simp [h]⟩
theorem goodK_all {L : List Kt} (h : ∀ (k : Nat) (x : Kt), L[k]? = some x → goodB x.x x.y = true) : goodK L = true := by
  unfold goodK
  rw [List.all_eq_true]
  intro x hx
  obtain ⟨k, hk, rfl⟩ := List.getElem_of_mem hx
  exact h k _ (List.getElem?_eq_getElem hk)
theorem all_good {LL : List (List Kt)} (h : ∀ (j : Nat) (L : List Kt), LL[j]? = some L → goodK L = true) : LL.all goodK = true := by
  rw [List.all_eq_true]
  intro x hx
  obtain ⟨k, hk, rfl⟩ := List.getElem_of_mem hx
  exact h k _ (List.getElem?_eq_getElem hk)
def LinesOut (w : World) (LL : List (List Kt)) (e : Ending) (w' : World) : Prop := ∃ v, e = .returned (.tuple #[v, .int .i64 (linesE LL)]) ∧ OwnG 67 4 lnL w' w.heap.size v (linesL LL) ∧ Since w w'
set_option maxRecDepth 100000 in
set_option maxHeartbeats 16000000 in
theorem fa_lines (A : Option Addr) (c : Nat) (LL : List (List Kt)) (w : World) (h : RdOL w w.heap.size A LL) (hn : LL.length ≤ 600) (hm : ∀ L, L ∈ LL → L.length ≤ 5000) (hin : ∀ L, L ∈ LL → ∀ k, k ∈ L → InP k.x k.y) :
    Calls Try.prog 35 #[.slice A LL.length c] w (LinesOut w LL) := by
  have hkn := fun w (h : RdOL w w.heap.size A LL) => ou_knots A c LL w h hn hm
  unfold KnotsOut at hkn
  obtain ⟨N, hN⟩ : ∃ N, N = LL.length := ⟨_, rfl⟩
  rw [← hN] at hn hkn ⊢
  have HN := Lib.hid hN
  have HM := Lib.hid hm
  have HIN := Lib.hid hin
  have HKN := Lib.hid hkn
  have HO := Lib.hid h
  clear hN hm hin hkn h
  obtain ⟨S, hS0⟩ : ∃ S, S = sumL LL := ⟨_, rfl⟩
  rw [← hS0] at HKN
  have HS0 := Lib.hid hS0
  clear hS0
  by_cases hsum : 4096 < S
  · have hE : linesE LL = 7 := linesE_full (by rw [← HS0.out]; exact hsum)
    have hL := linesL_no (LL := LL) (by rw [hE]; decide)
    have HE := Lib.hid hE
    have HL := Lib.hid hL
    have hd : decide ((4096 : Int) < (S : Int)) = true := by simp; omega
    clear hE hL
    go_enter Try.func35, Try.ntmps35
    go_wp2_with (go_at_call 25; (with_reducible refine (HKN.out _ HO.out).mono ?_); rintro e w1 ⟨rfl, hS1⟩)
    refine bodyPost_ret (results_tmp2 rfl _ _ _) rfl ?_
    exact ⟨_, by rw [HE.out]; rfl, by rw [HL.out]; exact OwnG.nil _ _ _ _ _, hS1⟩
  · have hd : decide ((4096 : Int) < (S : Int)) = false := by simp; omega
    go_enter Try.func35, Try.ntmps35
    have HSUM := Lib.hid hsum
    clear hsum
    go_wp2_with (go_at_call 25; (with_reducible refine (HKN.out _ HO.out).mono ?_); rintro e w1 ⟨rfl, hS1⟩)
    clear HKN
    go_loopw [16] (fun y wr => ∃ j : Nat, j ≤ N ∧ y = .int .i64 (j : Int) ∧ Since w wr ∧ ∀ (i : Nat) (L : List Kt), i < j → LL[i]? = some L → goodK L = true) (fun y _ => N - (intOf y).toNat)
    case atStart => exact ⟨0, by omega, rfl, hS1, fun i L hi => by omega⟩
    case round =>
      obtain ⟨j, hj, rfl, hS, hA⟩ := hrel
      have HA := Lib.hid hA
      clear hA hS1
      by_cases hjn : j < N
      · have hjn' : (j : Int) < N := by omega
        have hjL : j < LL.length := by rw [← HN.out]; exact hjn
        have hL : LL[j]? = some LL[j] := List.getElem?_eq_getElem hjL
        have hml := HM.out _ (List.mem_of_getElem? hL)
        have hil := HIN.out _ (List.mem_of_getElem? hL)
        generalize LL[j] = L at *
        obtain ⟨b, o, A', c', rfl, hb, hcell, hK⟩ := HO.out.row hL
        have c1 := (hS.1 _ _ hb).trans hcell
        obtain ⟨n, hnl⟩ : ∃ n, n = L.length := ⟨_, rfl⟩
        rw [← hnl] at hml c1
        have HNL := Lib.hid hnl
        have HLJ := Lib.hid hL
        have HK := Lib.hid hK
        have HIL := Lib.hid hil
        clear hL hcell hjL hnl hK hil
        go_wp2_with fail
        go_loopw [22] (fun y wi => ∃ k : Nat, k ≤ n ∧ y = .int .i64 (k : Int) ∧ Since w wi ∧ ∀ (i : Nat) (x : Kt), i < k → L[i]? = some x → goodB x.x x.y = true) (fun y _ => n - (intOf y).toNat)
        case atStart => exact ⟨0, by omega, rfl, hS, fun i x hi => by omega⟩
        case round =>
          obtain ⟨k, hk, rfl, hSi, hB⟩ := hrel
          have HB := Lib.hid hB
          clear hB hS
          by_cases hkn : k < n
          · have hkn' : (k : Int) < n := by omega
            have hkL : k < L.length := by rw [← HNL.out]; exact hkn
            have hx : L[k]? = some L[k] := List.getElem?_eq_getElem hkL
            have hxi := HIL.out _ (List.mem_of_getElem? hx)
            generalize L[k] = x at *
            obtain ⟨bk, ok, rfl, hbk, hck⟩ := HK.out (by omega)
            have d1 := (hSi.1 _ _ hbk).trans (hck k _ hx 0 (by omega))
            have d2 := (hSi.1 _ _ hbk).trans (hck k _ hx 1 (by omega))
            have d3 := (hSi.1 _ _ hbk).trans (hck k _ hx 2 (by omega))
            simp only [knL, List.getD_cons_succ, List.getD_cons_zero, Nat.add_zero] at d1 d2 d3
            have HX := Lib.hid hx
            have hg := fun w b hb t => good1 w b hb x.x x.y t hxi
            have HG := Lib.hid hg
            clear hx hxi hg hck hkL
            cases hgb : goodB x.x x.y with
            | false =>
              rw [hgb] at HG
              have hE : linesE LL = 6 := linesE_bad (by rw [← HS0.out]; exact HSUM.out) (all_bad HLJ.out HX.out hgb)
              have hL := linesL_no (LL := LL) (by rw [hE]; decide)
              have HE := Lib.hid hE
              have HL := Lib.hid hL
              clear hE hL hgb
              go_wp2_with (go_at_call 57; (with_reducible refine (HG.out _ _ (by simp) _).mono ?_); rintro e w2 ⟨rfl, hS2⟩)
              refine bodyPost_ret (results_tmp2 rfl _ _ _) rfl ?_
              exact ⟨_, by rw [HE.out]; rfl, by rw [HL.out]; exact OwnG.nil _ _ _ _ _, by (repeat (first | with_reducible (exact Since.refl _) | with_reducible assumption | with_reducible (refine Since.drew ?_) | with_reducible (refine Since.drewN ?_ _) | with_reducible (refine Since.alloc ?_ _) | (with_reducible (refine Since.setCell ?_ ?_ _); rotate_left; focus (first | (simp; done) | (simp; omega) | omega)) | (with_reducible (refine Since.trans ?_ (by with_reducible assumption)))))⟩
            | true =>
              rw [hgb] at HG
              have hB2 : ∀ (i : Nat) (y : Kt), i < k + 1 → L[i]? = some y → goodB y.x y.y = true := fun i y hi hy => by
                by_cases e : i = k
                · subst e
                  rw [HX.out] at hy
                  injection hy with hy
                  rw [← hy]
                  exact hgb
                · exact HB.out i y (by omega) hy
              have HB2 := Lib.hid hB2
              have u1 : IntKind.i64.wrap ((k : Int) + 1) = (k : Int) + 1 := IntWalk.i64_in _ (by omega)
              clear hB2 hgb c1
              go_wp2_with (go_at_call 57; (with_reducible refine (HG.out _ _ (by simp) _).mono ?_); rintro e w2 ⟨rfl, hS2⟩)
              go_roundw
              case rel => exact ⟨k + 1, by omega, by go_num, by (repeat (first | with_reducible (exact Since.refl _) | with_reducible assumption | with_reducible (refine Since.drew ?_) | with_reducible (refine Since.drewN ?_ _) | with_reducible (refine Since.alloc ?_ _) | (with_reducible (refine Since.setCell ?_ ?_ _); rotate_left; focus (first | (simp; done) | (simp; omega) | omega)) | (with_reducible (refine Since.trans ?_ (by with_reducible assumption))))), HB2.out⟩
              case measure => simp [intOf]; omega
          · obtain rfl : k = n := by omega
            have hgk : goodK L = true := goodK_all fun i x hx => HB.out i x (by
              rw [HNL.out]
              rcases Nat.lt_or_ge i L.length with h | h
              · exact h
              · rw [List.getElem?_eq_none h] at hx; cases hx) hx
            have hA2 : ∀ (i : Nat) (M : List Kt), i < j + 1 → LL[i]? = some M → goodK M = true := fun i M hi hM => by
              by_cases e : i = j
              · subst e
                rw [HLJ.out] at hM
                injection hM with hM
                rw [← hM]
                exact hgk
              · exact HA.out i M (by omega) hM
            have HA2 := Lib.hid hA2
            have u1 : IntKind.i64.wrap ((j : Int) + 1) = (j : Int) + 1 := IntWalk.i64_in _ (by omega)
            clear hA2 hgk c1
            go_wp2_with fail
            go_roundw
            case rel => exact ⟨j + 1, by omega, by go_num, hSi, HA2.out⟩
            case measure => simp [intOf]; omega
      · obtain rfl : j = N := by omega
        have hga : LL.all goodK = true := all_good fun i L hi => HA.out i L (by
          rw [HN.out]
          rcases Nat.lt_or_ge i LL.length with h | h
          · exact h
          · rw [List.getElem?_eq_none h] at hi; cases hi) hi
        have HGA := Lib.hid hga
        clear hga HA
        go_wp2_with fail
        go_loopw [8, 38] (fun v y wr => ∃ i : Nat, i ≤ j ∧ y = .int .i64 (i : Int) ∧ OwnG 67 4 lnL wr w.heap.size v (allL (sgsO (LL.take i))) ∧ (allL (sgsO (LL.take i))).length ≤ 4096 ∧ Since w wr) (fun _ y _ => j - (intOf y).toNat)
        case atStart => exact ⟨0, by omega, rfl, OwnG.nil _ _ _ _ _, by simp [sgsO, allL], hS⟩
        case round =>
          obtain ⟨i, hi, rfl, hOl, hlen, hSr⟩ := hrel
          by_cases hij : i < j
          · have hij' : (i : Int) < j := by omega
            have hiL : i < LL.length := by rw [← HN.out]; exact hij
            have hL : LL[i]? = some LL[i] := List.getElem?_eq_getElem hiL
            have hml := HM.out _ (List.mem_of_getElem? hL)
            have hil := HIN.out _ (List.mem_of_getElem? hL)
            have hgl := List.all_eq_true.1 HGA.out _ (List.mem_of_getElem? hL)
            have htk := sgsO_take hL
            have hal := all_take_le LL (i + 1)
            generalize LL[i] = L at *
            obtain ⟨b, o, A', c', rfl, hb, hcell, hK⟩ := HO.out.row hL
            have c1 := (hSr.1 _ _ hb).trans hcell
            have hin := sgs_in hgl
            have hsl := sgs_len L
            have hsg := fun (w1 : World) (hS1 : Since w w1) => ou_segs A' L.length c' _ _ _ w1 (RdKl.fn ((hK.keep fun b o hb => hS1.1 b o hb).more hS1.below.size)) (fn_in hil) (by omega)
            change ∀ w1, Since w w1 → Calls Try.prog 15 #[.slice A' L.length c'] w1 (SegsOut w1 (sgsK L)) at hsg
            have hway := fun (m : Int) (hm : m ≤ 4097) => fa_way A' L.length c' m (sgsK L) wr hm (fun w1 hS1 => hsg w1 (hSr.trans hS1)) hin (by omega)
            have hor := fun m => wayL_or m (sgsK L) []
            have hwl := fun (m : Int) (hm : m ≤ 4097) => wayL_len m hm (sgsK L) [] (by simp)
            rw [htk, allL_append] at hal
            have hnew : allL (sgsO (LL.take (i + 1))) = allL (sgsO (LL.take i)) ++ allL (sgsK L) := by rw [htk, allL_append]
            have HNEW := Lib.hid hnew
            clear hsg hin hsl hil hgl hcell hK hL hml hiL htk hnew
            obtain ⟨n, hnl⟩ : ∃ n, n = L.length := ⟨_, rfl⟩
            rw [← hnl] at hway c1
            clear hnl
            generalize sgsK L = SS at *
            generalize allL (sgsO (LL.take i)) = P at *
            obtain ⟨AP, cP, rfl, hcP, hrP⟩ := OwnG.rd (by omega) lnL_len hOl
            have HOL := Lib.hid hOl
            clear hrP hOl
            obtain ⟨m, hmI⟩ : ∃ m : Int, m = 4097 - (P.length : Int) := ⟨_, rfl⟩
            have u1 : IntKind.i64.wrap (4097 - (P.length : Int)) = 4097 - (P.length : Int) := IntWalk.i64_in _ (by omega)
            have hway := hway m (by omega)
            have hwl := hwl m (by omega)
            have hor := hor m
            simp only [List.nil_append] at hor
            generalize wayL m SS [] = M at *
            rw [hmI] at hway
            have HWAY := Lib.hid hway
            by_cases htot : P.length + M.length ≤ 4096
            · have hMe : M = allL SS := by
                rcases hor with h | ⟨h, _⟩
                · exact h
                · omega
              have hd : decide ((4096 : Int) < ((P ++ M).length : Int)) = false := by rw [List.length_append]; simp; omega
              rw [← hMe] at HNEW
              have HTOT := Lib.hid htot
              have u2 : IntKind.i64.wrap ((i : Int) + 1) = (i : Int) + 1 := IntWalk.i64_in _ (by omega)
              clear hor hMe hal hway hmI
              go_wp2_with (first | (go_at_call 58; (with_reducible refine HWAY.out.mono ?_); rintro e w5 ⟨v5, rfl, hO5, hS5⟩; obtain ⟨A5, c5, rfl, hc5, hr5⟩ := hO5.rd (by omega) lnL_len; have hOl5 := HOL.out.since hS5) | (at_builtin; refine wpList_append_g rfl _ _ 57 67 rfl (by omega) lnL_len lnL_one 32 Try.underlying57 infoLn w.heap.size _ _ (by rfl) hOl5 _ _ _ _ (by rfl) hr5 ?_ ?_ ?_ ?_; (focus omega); (focus (simp only [maxLen]; omega)); (focus (have := (hSr.trans hS5).below.size; omega)); intro v6 w6 hO6 hg6 hb6; have hS6 : Since w w6 := since_grown (hSr.trans hS5) hg6 (fun q hq => (hb6 q hq).1); obtain ⟨A6, c6, rfl, hc6, hr6⟩ := hO6.rd (by omega) lnL_len; have HO6 := Lib.hid hO6; clear hO6 hr6 hOl5 hr5 hO5 hg6 hb6))
              go_roundw
              case rel => exact ⟨i + 1, by omega, by go_num, by rw [HNEW.out, ← List.length_append]; exact HO6.out, by rw [HNEW.out, List.length_append]; exact HTOT.out, hS6⟩
              case measure => simp [intOf]; omega
            · have hmany : linesE LL = 7 := by
                refine linesE_many (by rw [← HS0.out]; exact HSUM.out) HGA.out ?_
                rw [List.length_append] at hal
                rcases hor with h | ⟨_, h⟩
                · rw [h] at htot; omega
                · omega
              have hL0 := linesL_no (LL := LL) (by rw [hmany]; decide)
              have HE := Lib.hid hmany
              have HL := Lib.hid hL0
              have hd : decide ((4096 : Int) < ((P ++ M).length : Int)) = true := by rw [List.length_append]; simp; omega
              clear hor hal hway hmany hL0 HNEW hmI
              go_wp2_with (first | (go_at_call 58; (with_reducible refine HWAY.out.mono ?_); rintro e w5 ⟨v5, rfl, hO5, hS5⟩; obtain ⟨A5, c5, rfl, hc5, hr5⟩ := hO5.rd (by omega) lnL_len; have hOl5 := HOL.out.since hS5) | (at_builtin; refine wpList_append_g rfl _ _ 57 67 rfl (by omega) lnL_len lnL_one 32 Try.underlying57 infoLn w.heap.size _ _ (by rfl) hOl5 _ _ _ _ (by rfl) hr5 ?_ ?_ ?_ ?_; (focus omega); (focus (simp only [maxLen]; omega)); (focus (have := (hSr.trans hS5).below.size; omega)); intro v6 w6 hO6 hg6 hb6; have hS6 : Since w w6 := since_grown (hSr.trans hS5) hg6 (fun q hq => (hb6 q hq).1); obtain ⟨A6, c6, rfl, hc6, hr6⟩ := hO6.rd (by omega) lnL_len; have HO6 := Lib.hid hO6; clear hO6 hr6 hOl5 hr5 hO5 hg6 hb6))
              refine bodyPost_ret (results_tmp2 rfl _ _ _) rfl ?_
              exact ⟨_, by rw [HE.out]; rfl, by rw [HL.out]; exact OwnG.nil _ _ _ _ _, hS6⟩
          · obtain rfl : i = j := by omega
            have e : LL.take i = LL := by rw [HN.out]; exact List.take_length
            rw [e] at hOl hlen
            have hok : linesE LL = 0 := linesE_ok (by rw [← HS0.out]; exact HSUM.out) HGA.out (by omega)
            have hL0 := linesL_ok hok
            rw [← hL0] at hOl
            have HE := Lib.hid hok
            clear hok hL0 hlen e
            obtain ⟨AP, cP, rfl, hcP, hrP⟩ := OwnG.rd (by omega) lnL_len hOl
            have HOL := Lib.hid hOl
            clear hrP hOl
            go_wp2_with fail
            refine bodyPost_ret (results_tmp2 rfl _ _ _) rfl ?_
            exact ⟨_, by rw [HE.out]; rfl, HOL.out, hSr⟩
end Go.Proofs.Ytdbenpncnkfliaa

/-
  Layer 13: the reference's Good, Power, point, near, Abs, Down, walked.
-/
namespace Go.Proofs.Ytdbenpncnkfliaa
open Go.RowKit
set_option linter.unusedVariables false

set_option maxHeartbeats 4000000 in
theorem rq_good (s : Sg) (w : World) : Calls Try.prog 32 #[s.v] w fun e w' => e = .returned (.bool (inR s)) ∧ Since w w' := by
  have g1 := fun w => rf_good s.ax s.ay w
  have g2 := fun w => rf_good s.bx s.bz w
  have g3 := fun w => rf_good s.cx s.cy w
  have hN := fun w b hb t => seg_new w b hb s t
  obtain ⟨ax, ay, cx, cy, bx, bz, k⟩ := s
  unfold inR Sg.v
  unfold Pt at *
  simp only at *
  generalize goodB ax ay = G1 at *
  generalize goodB bx bz = G2 at *
  generalize goodB cx cy = G3 at *
  have H1 := Lib.hid g1
  have H2 := Lib.hid g2
  have H3 := Lib.hid g3
  have HN := Lib.hid hN
  clear g1 g2 g3 hN
  cases G1 <;> cases G2 <;> cases k
  all_goals
    go_enter Try.func32, Try.ntmps32
    go_wp2_with (first | (go_at_call 55; (with_reducible refine (H1.out _).mono ?_); rintro e w1 ⟨rfl, hS1⟩; have hX1 := (HN.out w _ rfl _).since hS1; have hS : Since w w1 := (by (repeat (first | with_reducible (exact Since.refl _) | with_reducible assumption | with_reducible (refine Since.drew ?_) | with_reducible (refine Since.drewN ?_ _) | with_reducible (refine Since.alloc ?_ _) | (with_reducible (refine Since.setCell ?_ ?_ _); rotate_left; focus (first | (simp; done) | (simp; omega) | omega)) | (with_reducible (refine Since.trans ?_ (by with_reducible assumption)))))); clear hS1; have hX2 := hX1; obtain ⟨s1, s2, s3, s4, s5, s6, s7, s8⟩ := hX2; simp only at s1 s2 s3 s4 s5 s6 s7) | (go_at_call 55; (with_reducible refine (H2.out _).mono ?_); rintro e w2 ⟨rfl, hS2⟩; have hX3 := hX1.since hS2; have hS3 : Since w w2 := (by (repeat (first | with_reducible (exact Since.refl _) | with_reducible assumption | with_reducible (refine Since.drew ?_) | with_reducible (refine Since.drewN ?_ _) | with_reducible (refine Since.alloc ?_ _) | (with_reducible (refine Since.setCell ?_ ?_ _); rotate_left; focus (first | (simp; done) | (simp; omega) | omega)) | (with_reducible (refine Since.trans ?_ (by with_reducible assumption)))))); clear s1 s2 s3 s4 s5 s6 s7 s8 hS2 hX1 hS; obtain ⟨s1, s2, s3, s4, s5, s6, s7, s8⟩ := hX3; simp only at s1 s2 s3 s4 s5 s6 s7) | (go_at_call 55; (with_reducible refine (H3.out _).mono ?_); rintro e w3 ⟨rfl, hS4⟩; have hS5 : Since w w3 := (by (repeat (first | with_reducible (exact Since.refl _) | with_reducible assumption | with_reducible (refine Since.drew ?_) | with_reducible (refine Since.drewN ?_ _) | with_reducible (refine Since.alloc ?_ _) | (with_reducible (refine Since.setCell ?_ ?_ _); rotate_left; focus (first | (simp; done) | (simp; omega) | omega)) | (with_reducible (refine Since.trans ?_ (by with_reducible assumption))))))))
    go_ret
    exact ⟨by first | rfl | simp, by (repeat (first | with_reducible (exact Since.refl _) | with_reducible assumption | with_reducible (refine Since.drew ?_) | with_reducible (refine Since.drewN ?_ _) | with_reducible (refine Since.alloc ?_ _) | (with_reducible (refine Since.setCell ?_ ?_ _); rotate_left; focus (first | (simp; done) | (simp; omega) | omega)) | (with_reducible (refine Since.trans ?_ (by with_reducible assumption)))))⟩

set_option maxHeartbeats 4000000 in
theorem rq_power (b n : Int) (h1 : 2 ≤ b) (h2 : b ≤ 4) (h3 : 0 ≤ n) (h4 : n ≤ 10) (w : World) :
    Calls Try.prog 56 #[.int .i64 b, .int .i64 n] w fun e w' => e = .returned (.int .i64 (b ^ n.toNat)) ∧ Since w w' := by
  obtain ⟨m, rfl⟩ := Int.eq_ofNat_of_zero_le h3
  rw [Int.toNat_natCast]
  have hpow : ∀ j : Nat, j ≤ m → 0 ≤ b ^ j ∧ b ^ j ≤ 1048576 := by
    intro j hj
    have hb : b = 2 ∨ b = 3 ∨ b = 4 := by omega
    have hm : j = 0 ∨ j = 1 ∨ j = 2 ∨ j = 3 ∨ j = 4 ∨ j = 5 ∨ j = 6 ∨ j = 7 ∨ j = 8 ∨ j = 9 ∨ j = 10 := by omega
    rcases hb with rfl | rfl | rfl <;> rcases hm with rfl | rfl | rfl | rfl | rfl | rfl | rfl | rfl | rfl | rfl | rfl <;> decide
  have HP := Lib.hid hpow
  clear hpow
  go_enter Try.func56, Try.ntmps56
  go_wp2
  go_loop [5, 6] (fun x y => ∃ j : Nat, j ≤ m ∧ x = .int .i64 (b ^ j) ∧ y = .int .i64 (j : Int)) (fun _ y => m - (intOf y).toNat)
  case atStart => exact ⟨0, by omega, by simp, rfl⟩
  case round =>
    obtain ⟨j, hj, rfl, rfl⟩ := hrel
    by_cases hjm : j < m
    · have hjm' : (j : Int) < m := by omega
      have e1 := HP.out (j + 1) (by omega)
      have e2 := HP.out j (by omega)
      have w1 : IntKind.i64.wrap (b ^ j * b) = b ^ j * b := IntWalk.i64_in _ (by rw [Int.pow_succ] at e1; omega)
      clear e1 e2
      go_wp2
      go_round
      case rel => exact ⟨j + 1, by omega, by rw [Int.pow_succ], by go_num⟩
      case measure => simp [intOf]; omega
    · obtain rfl : j = m := by omega
      go_wp2
      go_ret
      exact ⟨rfl, by (repeat (first | with_reducible (exact Since.refl _) | with_reducible assumption | with_reducible (refine Since.drew ?_) | with_reducible (refine Since.drewN ?_ _) | with_reducible (refine Since.alloc ?_ _) | (with_reducible (refine Since.setCell ?_ ?_ _); rotate_left; focus (first | (simp; done) | (simp; omega) | omega)) | (with_reducible (refine Since.trans ?_ (by with_reducible assumption)))))⟩

def PtOK (x y z a c b : Int) : Prop := IntKind.i64.wrap (a * x) = a * x ∧ IntKind.i64.wrap (c * y) = c * y ∧ IntKind.i64.wrap (a * x + c * y) = a * x + c * y ∧ IntKind.i64.wrap (b * z) = b * z ∧ IntKind.i64.wrap (a * x + c * y + b * z) = a * x + c * y + b * z
set_option maxHeartbeats 4000000 in
theorem rq_point (s : Sg) (a c b : Int) (h : PtOK s.ax s.cx s.bx a c b) (h' : PtOK s.ay s.cy s.bz a c b) (w : World) :
    Calls Try.prog 61 #[s.v, .int .i64 a, .int .i64 c, .int .i64 b] w fun e w' => e = .returned (Pt (a * s.ax + c * s.cx + b * s.bx) (a * s.ay + c * s.cy + b * s.bz)) ∧ Since w w' := by
  obtain ⟨ax, ay, cx, cy, bx, bz, k⟩ := s
  obtain ⟨u1, u2, u3, u4, u5⟩ := h
  obtain ⟨v1, v2, v3, v4, v5⟩ := h'
  unfold Pt Sg.v
  simp only at *
  go_enter Try.func61, Try.ntmps61
  go_wp2
  refine bodyPost_ret (by simp only [results, Try.results61]; go_simp) rfl ⟨rfl, ?_⟩
  (repeat (first | with_reducible (exact Since.refl _) | with_reducible assumption | with_reducible (refine Since.drew ?_) | with_reducible (refine Since.drewN ?_ _) | with_reducible (refine Since.alloc ?_ _) | (with_reducible (refine Since.setCell ?_ ?_ _); rotate_left; focus (first | (simp; done) | (simp; omega) | omega)) | (with_reducible (refine Since.trans ?_ (by with_reducible assumption)))))

theorem rq_abs (x : Int) (h1 : -1152921504606846976 ≤ x) (h2 : x ≤ 1152921504606846976) (w : World) :
    Calls Try.prog 45 #[.int .i64 x] w fun e w' => e = .returned (.int .i64 (if x < 0 then -x else x)) ∧ Since w w' := by
  have w1 : IntKind.i64.wrap (-x) = -x := IntWalk.i64_in _ (by omega)
  by_cases hx : x < 0
  all_goals
    go_enter Try.func45, Try.ntmps45
    go_wp2
    go_ret
    exact ⟨by simp, by (repeat (first | with_reducible (exact Since.refl _) | with_reducible assumption | with_reducible (refine Since.drew ?_) | with_reducible (refine Since.drewN ?_ _) | with_reducible (refine Since.alloc ?_ _) | (with_reducible (refine Since.setCell ?_ ?_ _); rotate_left; focus (first | (simp; done) | (simp; omega) | omega)) | (with_reducible (refine Since.trans ?_ (by with_reducible assumption)))))⟩

theorem down_num (n d : Int) (hd : 0 < d) : n / d = if n.tmod d < 0 then n.tdiv d - 1 else n.tdiv d := by
  rw [Int.tdiv_eq_ediv, Int.tmod_eq_emod]
  have h1 := Int.emod_nonneg n (show d ≠ 0 by omega)
  have h2 := Int.emod_lt_of_pos n hd
  have hs : d.sign = 1 := Int.sign_eq_one_of_pos hd
  have hna : (d.natAbs : Int) = d := by omega
  have hdv : d ∣ n ↔ n % d = 0 := Int.dvd_iff_emod_eq_zero
  by_cases h : 0 ≤ n ∨ d ∣ n
  · rw [if_pos h, if_pos h]
    split <;> omega
  · rw [if_neg h, if_neg h, hs, hna]
    rw [if_pos (by omega)]
    omega
theorem rq_down (n d : Int) (hd : 0 < d) (hd' : d ≤ 4611686018427387904) (hn : -4611686018427387904 ≤ n ∧ n ≤ 4611686018427387904) (w : World) :
    Calls Try.prog 60 #[.int .i64 n, .int .i64 d] w fun e w' => e = .returned (.int .i64 (n / d)) ∧ Since w w' := by
  have e1 := down_num n d hd
  have hb : -4611686018427387904 ≤ n.tdiv d ∧ n.tdiv d ≤ 4611686018427387904 := by
    have h : (n.tdiv d).natAbs ≤ n.natAbs := by rw [Int.natAbs_tdiv]; exact Nat.div_le_self _ _
    omega
  have w1 : IntKind.i64.wrap (n.tdiv d) = n.tdiv d := IntWalk.i64_in _ (by omega)
  have w2 : IntKind.i64.wrap (n.tdiv d - 1) = n.tdiv d - 1 := IntWalk.i64_in _ (by omega)
  have hd0 : ¬ d = 0 := by omega
  rw [e1]
  clear hb e1
  by_cases hm : n.tmod d < 0
  all_goals
    go_enter Try.func60, Try.ntmps60
    go_wp2
    go_ret
    exact ⟨by simp, by (repeat (first | with_reducible (exact Since.refl _) | with_reducible assumption | with_reducible (refine Since.drew ?_) | with_reducible (refine Since.drewN ?_ _) | with_reducible (refine Since.alloc ?_ _) | (with_reducible (refine Since.setCell ?_ ?_ _); rotate_left; focus (first | (simp; done) | (simp; omega) | omega)) | (with_reducible (refine Since.trans ?_ (by with_reducible assumption)))))⟩
end Go.Proofs.Ytdbenpncnkfliaa

/-
  Layer 13: the reference's At, walked.
-/
namespace Go.Proofs.Ytdbenpncnkfliaa
open Go.RowKit
set_option linter.unusedVariables false

theorem ref_line {a b l k p : Int} : l * p * a + 0 * 0 + k * p * b = lineI a b l k p := by
  unfold lineI
  rw [Int.add_mul, Int.zero_mul, Int.add_zero]
  congr 1 <;> ac_rfl
theorem ref_curve {a c b l k : Int} : l * l * a + 2 * k * l * c + k * k * b = curveI a c b l k := by
  unfold curveI
  congr 1
  · congr 1 <;> ac_rfl
  · ac_rfl
theorem sq_in {x y X : Int} (h1 : 0 ≤ x) (h2 : x ≤ X) (h3 : 0 ≤ y) (h4 : y ≤ X) : 0 ≤ x * y ∧ x * y ≤ X * X :=
  ⟨Int.mul_nonneg h1 h3, Int.mul_le_mul h2 h4 h3 (by omega)⟩
theorem line_ok {a b l k p : Int} (ha : Tny a) (hb : Tny b) (hl : 0 ≤ l) (hk : 0 ≤ k) (hs : l + k = p) (hp : p ≤ 1024) : PtOK a 0 b (l * p) 0 (k * p) := by
  have h1 := sq_in (X := 1024) hl (by omega) (by omega : 0 ≤ p) hp
  have h2 := sq_in (X := 1024) hk (by omega) (by omega : 0 ≤ p) hp
  unfold Tny at *
  have g1 := mul_in (x := a) (y := l * p) (X := 4194304) (Y := 1048576) (by omega) (by omega) (by omega) (by omega)
  have g2 := mul_in (x := b) (y := k * p) (X := 4194304) (Y := 1048576) (by omega) (by omega) (by omega) (by omega)
  rw [Int.mul_comm a] at g1
  rw [Int.mul_comm b] at g2
  unfold PtOK
  refine ⟨IntWalk.i64_in _ ?_, IntWalk.i64_in _ ?_, IntWalk.i64_in _ ?_, IntWalk.i64_in _ ?_, IntWalk.i64_in _ ?_⟩ <;> omega
theorem curve_ok {a c b l k : Int} (ha : Tny a) (hc : Tny c) (hb : Tny b) (hl : 0 ≤ l) (hk : 0 ≤ k) (hs : l + k ≤ 1024) : PtOK a c b (l * l) (2 * k * l) (k * k) := by
  have h1 := sq_in (X := 1024) hl (by omega) hl (by omega)
  have h2 := sq_in (X := 1024) hk (by omega) hk (by omega)
  have h3 := sq_in (X := 2048) (show 0 ≤ 2 * k by omega) (by omega) hl (by omega : l ≤ 2048)
  unfold Tny at *
  have g1 := mul_in (x := a) (y := l * l) (X := 4194304) (Y := 1048576) (by omega) (by omega) (by omega) (by omega)
  have g2 := mul_in (x := b) (y := k * k) (X := 4194304) (Y := 1048576) (by omega) (by omega) (by omega) (by omega)
  have g3 := mul_in (x := c) (y := 2 * k * l) (X := 4194304) (Y := 4194304) (by omega) (by omega) (by omega) (by omega)
  rw [Int.mul_comm a] at g1
  rw [Int.mul_comm b] at g2
  rw [Int.mul_comm c] at g3
  unfold PtOK
  refine ⟨IntWalk.i64_in _ ?_, IntWalk.i64_in _ ?_, IntWalk.i64_in _ ?_, IntWalk.i64_in _ ?_, IntWalk.i64_in _ ?_⟩ <;> omega

set_option maxHeartbeats 8000000 in
theorem rq_at_bad (s : Sg) (k n : Int) (h : argOK k n = false) (w : World) :
    Calls Try.prog 44 #[s.v, .int .i64 k, .int .i64 n] w fun e w' => e = .returned (.tuple #[Pt 0 0, .int .i64 2]) ∧ Since w w' := by
  unfold argOK at h
  simp only [decide_eq_false_iff_not] at h
  unfold Pt Sg.v
  by_cases h1 : n < 0
  · clear h
    go_enter Try.func44, Try.ntmps44
    go_wp2_with fail
    refine bodyPost_ret (by simp only [results, Try.results44]; go_simp) rfl ⟨rfl, ?_⟩
    (repeat (first | with_reducible (exact Since.refl _) | with_reducible assumption | with_reducible (refine Since.drew ?_) | with_reducible (refine Since.drewN ?_ _) | with_reducible (refine Since.alloc ?_ _) | (with_reducible (refine Since.setCell ?_ ?_ _); rotate_left; focus (first | (simp; done) | (simp; omega) | omega)) | (with_reducible (refine Since.trans ?_ (by with_reducible assumption)))))
  · by_cases h2 : 10 < n
    · clear h
      go_enter Try.func44, Try.ntmps44
      go_wp2_with fail
      refine bodyPost_ret (by simp only [results, Try.results44]; go_simp) rfl ⟨rfl, ?_⟩
      (repeat (first | with_reducible (exact Since.refl _) | with_reducible assumption | with_reducible (refine Since.drew ?_) | with_reducible (refine Since.drewN ?_ _) | with_reducible (refine Since.alloc ?_ _) | (with_reducible (refine Since.setCell ?_ ?_ _); rotate_left; focus (first | (simp; done) | (simp; omega) | omega)) | (with_reducible (refine Since.trans ?_ (by with_reducible assumption)))))
    · by_cases h3 : k < 0
      · clear h
        go_enter Try.func44, Try.ntmps44
        go_wp2_with fail
        refine bodyPost_ret (by simp only [results, Try.results44]; go_simp) rfl ⟨rfl, ?_⟩
        (repeat (first | with_reducible (exact Since.refl _) | with_reducible assumption | with_reducible (refine Since.drew ?_) | with_reducible (refine Since.drewN ?_ _) | with_reducible (refine Since.alloc ?_ _) | (with_reducible (refine Since.setCell ?_ ?_ _); rotate_left; focus (first | (simp; done) | (simp; omega) | omega)) | (with_reducible (refine Since.trans ?_ (by with_reducible assumption)))))
      · have h4 : (2 : Int) ^ n.toNat < k := by omega
        have hc := Lib.hid (fun w => rq_power 2 n (by decide) (by decide) (by omega) (by omega) w)
        generalize (2 : Int) ^ n.toNat = p at *
        clear h
        go_enter Try.func44, Try.ntmps44
        go_wp2_with (go_at_call 56; (with_reducible refine (hc.out _).mono ?_); rintro e w1 ⟨rfl, hS1⟩; have hZ := (zero2_new _ (w.heap.size + 1) (by simp) _).since hS1; have hS : Since w w1 := (by (repeat (first | with_reducible (exact Since.refl _) | with_reducible assumption | with_reducible (refine Since.drew ?_) | with_reducible (refine Since.drewN ?_ _) | with_reducible (refine Since.alloc ?_ _) | (with_reducible (refine Since.setCell ?_ ?_ _); rotate_left; focus (first | (simp; done) | (simp; omega) | omega)) | (with_reducible (refine Since.trans ?_ (by with_reducible assumption)))))); clear hS1; obtain ⟨⟨z1, z2, z3⟩, zF⟩ := hZ; have zF0 := zF 0; have zF1 := zF 1; clear zF)
        refine bodyPost_ret (by simp only [results, Try.results44]; go_simp) rfl ⟨rfl, ?_⟩
        (repeat (first | with_reducible (exact Since.refl _) | with_reducible assumption | with_reducible (refine Since.drew ?_) | with_reducible (refine Since.drewN ?_ _) | with_reducible (refine Since.alloc ?_ _) | (with_reducible (refine Since.setCell ?_ ?_ _); rotate_left; focus (first | (simp; done) | (simp; omega) | omega)) | (with_reducible (refine Since.trans ?_ (by with_reducible assumption)))))

set_option maxHeartbeats 8000000 in
theorem rq_at_far (s : Sg) (k n : Int) (h : argOK k n = true) (hr : inR s = false) (w : World) :
    Calls Try.prog 44 #[s.v, .int .i64 k, .int .i64 n] w fun e w' => e = .returned (.tuple #[Pt 0 0, .int .i64 6]) ∧ Since w w' := by
  have hg := fun w => rq_good s w
  rw [hr] at hg
  have HG := Lib.hid hg
  clear hg hr
  obtain ⟨h1, h2, h3, h4⟩ := arg_parts h
  have hc := Lib.hid (fun w => rq_power 2 n (by decide) (by decide) (by omega) (by omega) w)
  have hN := fun w b hb t => seg_new w b hb s t
  have HN := Lib.hid hN
  generalize (2 : Int) ^ n.toNat = p at *
  clear h hN
  unfold Pt Sg.v at *
  go_enter Try.func44, Try.ntmps44
  go_wp2_with (first | (go_at_call 56; (with_reducible refine (hc.out _).mono ?_); rintro e w1 ⟨rfl, hS1⟩; have hX1 := ((HN.out w _ rfl _).alloc _).since hS1; have hZ := (zero2_new _ (w.heap.size + 1) (by simp) _).since hS1; have hS : Since w w1 := (by (repeat (first | with_reducible (exact Since.refl _) | with_reducible assumption | with_reducible (refine Since.drew ?_) | with_reducible (refine Since.drewN ?_ _) | with_reducible (refine Since.alloc ?_ _) | (with_reducible (refine Since.setCell ?_ ?_ _); rotate_left; focus (first | (simp; done) | (simp; omega) | omega)) | (with_reducible (refine Since.trans ?_ (by with_reducible assumption)))))); clear hS1; have hX2 := hX1; obtain ⟨s1, s2, s3, s4, s5, s6, s7, s8⟩ := hX2) | (go_at_call 32; (with_reducible refine (HG.out _).mono ?_); rintro e w2 ⟨rfl, hS2⟩; have hZ2 := hZ.since hS2; have hS3 := hS.trans hS2; clear hS2 hS hX1 s1 s2 s3 s4 s5 s6 s7 s8 hZ; obtain ⟨⟨z1, z2, z3⟩, zF⟩ := hZ2; have zF0 := zF 0; have zF1 := zF 1; clear zF))
  refine bodyPost_ret (by simp only [results, Try.results44]; go_simp) rfl ⟨rfl, ?_⟩
  (repeat (first | with_reducible (exact Since.refl _) | with_reducible assumption | with_reducible (refine Since.drew ?_) | with_reducible (refine Since.drewN ?_ _) | with_reducible (refine Since.alloc ?_ _) | (with_reducible (refine Since.setCell ?_ ?_ _); rotate_left; focus (first | (simp; done) | (simp; omega) | omega)) | (with_reducible (refine Since.trans ?_ (by with_reducible assumption)))))
end Go.Proofs.Ytdbenpncnkfliaa

/-
  Layer 13: 'Box', walked.
-/
namespace Go.Proofs.Ytdbenpncnkfliaa
open Go.RowKit
set_option linter.unusedVariables false

def mi (a b : Int) : Int := if b < a then b else a
def ma (a b : Int) : Int := if a < b then b else a
theorem min3_run (A B C : Int) (w : World) : (Builtin.min_ #[3, 3, 3] 3 #[.int .i64 A, .int .i64 B, .int .i64 C]).run Try.prog w = .ok (.int .i64 (mi (mi A B) C)) w := by
  simp only [Builtin.min_, List.foldlM_cons, List.foldlM_nil, Builtin.min2, mi]
  rfl

theorem max3_run (A B C : Int) (w : World) : (Builtin.max_ #[3, 3, 3] 3 #[.int .i64 A, .int .i64 B, .int .i64 C]).run Try.prog w = .ok (.int .i64 (ma (ma A B) C)) w := by
  simp only [Builtin.max_, List.foldlM_cons, List.foldlM_nil, Builtin.max2, ma]
  rfl

theorem SegAt.far {w : World} {b b' : Nat} {s : Sg} (h : SegAt w b s) (hb : b' ≠ b) (o : Nat) (v : Value) : SegAt (w.setCell ⟨b', o, none⟩ v) b s := by
  obtain ⟨h1, h2, h3, h4, h5, h6, h7, h8⟩ := h
  have k : ∀ j, (w.setCell ⟨b', o, none⟩ v).cell? ⟨b, j, none⟩ = w.cell? ⟨b, j, none⟩ := fun j => by rw [cell_set, if_neg (fun e => hb e.1)]
  exact ⟨(k _).trans h1, (k _).trans h2, (k _).trans h3, (k _).trans h4, (k _).trans h5, (k _).trans h6, (k _).trans h7, by simpa [World.setCell] using h8⟩
theorem PtAt.far {w : World} {b b' : Nat} {x y : Int} (h : PtAt w b x y) (hb : b' ≠ b) (o : Nat) (v : Value) : PtAt (w.setCell ⟨b', o, none⟩ v) b x y := by
  obtain ⟨h1, h2, h8⟩ := h
  have k : ∀ j, (w.setCell ⟨b', o, none⟩ v).cell? ⟨b, j, none⟩ = w.cell? ⟨b, j, none⟩ := fun j => by rw [cell_set, if_neg (fun e => hb e.1)]
  exact ⟨(k _).trans h1, (k _).trans h2, by simpa [World.setCell] using h8⟩
theorem Zero2.far {w : World} {b b' : Nat} (h : Zero2 w b) (hb : b' ≠ b) (o : Nat) (v : Value) : Zero2 (w.setCell ⟨b', o, none⟩ v) b := ⟨h.1.far hb o v, fun j => (World.frozen?_setCell _ _ _ _).trans (h.2 j)⟩
/-- A block holds a point, and may be written. -/
def PtF (w : World) (b : Nat) (x y : Int) : Prop := PtAt w b x y ∧ ∀ j, w.frozen? ⟨b, j, none⟩ = false
theorem PtF.since {w w' : World} {b : Nat} {x y : Int} (h : PtF w b x y) (k : Since w w') : PtF w' b x y := ⟨h.1.since k, fun j => (k.2.1 _ _ h.1.2.2).trans (h.2 j)⟩
theorem PtF.far {w : World} {b b' : Nat} {x y : Int} (h : PtF w b x y) (hb : b' ≠ b) (o : Nat) (v : Value) : PtF (w.setCell ⟨b', o, none⟩ v) b x y := ⟨h.1.far hb o v, fun j => (World.frozen?_setCell _ _ _ _).trans (h.2 j)⟩
theorem ptf_set {w : World} {b : Nat} (h : Zero2 w b) (x y : Int) : PtF ((w.setCell ⟨b, 0, none⟩ (.int .i64 x)).setCell ⟨b, 1, none⟩ (.int .i64 y)) b x y := by
  obtain ⟨⟨h1, h2, h3⟩, h4⟩ := h
  refine ⟨⟨?_, ?_, by simpa [World.setCell] using h3⟩, fun j => (World.frozen?_setCell _ _ _ _).trans ((World.frozen?_setCell _ _ _ _).trans (h4 j))⟩
  · rw [cell_set, if_neg (by omega), cell_set, if_pos ⟨rfl, rfl⟩, h1]; rfl
  · rw [cell_set, if_pos ⟨rfl, rfl⟩, cell_set, if_neg (by omega), h2]; rfl
def lo3 (k : Bool) (A B C : Int) : Int := if k then mi (mi A B) C else mi A B
def hi3 (k : Bool) (A B C : Int) : Int := if k then ma (ma A B) C else ma A B
theorem mi_self (A B : Int) : mi (mi A B) A = mi A B := by unfold mi; repeat' split
                                                           all_goals omega
theorem ma_self (A B : Int) : ma (ma A B) A = ma A B := by unfold ma; repeat' split
                                                           all_goals omega
def boxV (s : Sg) : Value := .tuple #[Pt (lo3 s.k s.ax s.bx s.cx) (lo3 s.k s.ay s.bz s.cy), Pt (hi3 s.k s.ax s.bx s.cx) (hi3 s.k s.ay s.bz s.cy)]
end Go.Proofs.Ytdbenpncnkfliaa
