/-
  Layer 11: contours gone the other way: flags changed in place; contours as functions.
-/
import Derived.Test.YtdbenpncnkfliaaOuLx
import Derived.Test.YtdbenpncnkfliaaOuFr
import Derived.Test.YtdbenpncnkfliaaOuFl
import Derived.Test.YtdbenpncnkfliaaOuR
namespace Go.Proofs.Ytdbenpncnkfliaa
open Go.RowKit Go.ChangeShapes Go.WideShapes Go.Deep
set_option linter.unusedVariables false

theorem cellsK_setO : ∀ (L : List Kt) (i : Nat) (x : Bool), ∃ M : List Kt, M.length = L.length ∧ (cellsG knL L).set (i * 3 + 2) (.bool x) = cellsG knL M
  | [], i, x => ⟨[], rfl, by simp [cellsG]⟩
  | k :: L, 0, x => ⟨⟨k.x, k.y, x⟩ :: L, rfl, by simp [cellsG, knL]⟩
  | k :: L, i + 1, x => by
    obtain ⟨M, h1, h2⟩ := cellsK_setO L i x
    refine ⟨k :: M, by simp [h1], ?_⟩
    have e0 : cellsG knL (k :: L) = knL k ++ cellsG knL L := by simp [cellsG]
    have e1 : cellsG knL (k :: M) = knL k ++ cellsG knL M := by simp [cellsG]
    have el : (knL k).length = 3 := rfl
    rw [e0, e1, ← h2, show (i + 1) * 3 + 2 = (knL k).length + (i * 3 + 2) by rw [el]; omega, set_app]
theorem own_setO {w : World} {base q : Nat} {v : Value} {L : List Kt} (h : OwnK w base v L) (hq : v.ownBlock = some q) (i : Nat) (x : Bool) : ∃ M, M.length = L.length ∧ OwnK (w.setCell ⟨q, i * 3 + 2, none⟩ (.bool x)) base v M := by
  obtain ⟨A, c, rfl, _, _⟩ := OwnG.rd (by omega) knL_len h
  obtain ⟨M, h1, h2⟩ := cellsK_setO L i x
  rcases h.2 with ⟨h0, _⟩ | ⟨g, cap, cur, h0, _⟩
  · injection h0 with h0
    subst h0
    cases hq
  · injection h0 with h0
    subst h0
    have e : g = q := by injection hq
    subst e
    have h3 := (World.ownsRow.stored h (i * 3 + 2) (.bool x)).1
    rw [h2] at h3
    refine ⟨M, h1, ?_⟩
    unfold OwnK OwnG
    rw [h1]
    exact h3
theorem WrO.putO {w : World} {base q : Nat} {v vr : Value} {LL : List (List Kt)} {R : List Kt} (h : WrO w base v LL) (hr : OwnK w base vr R) (hq : vr.ownBlock = some q) (i : Nat) (x : Bool) : WrO (w.setCell ⟨q, i * 3 + 2, none⟩ (.bool x)) base v LL := by
  obtain ⟨hs, hl, ho, hK⟩ := h
  have hne : 39 ≠ 23 := by decide
  have hkb : KeepBut q w (w.setCell ⟨q, i * 3 + 2, none⟩ (.bool x)) := (KeepBut.refl q w).set _ _
  refine ⟨hs, hl, OwnG.but ho hkb (own_apart hr ho hne hq), fun j y L h1 h2 => ?_⟩
  obtain ⟨M, e, hM⟩ := hK j y L h1 h2
  by_cases hb : (Value.slice y.A y.n y.c).ownBlock = some q
  · obtain ⟨M', e', hM'⟩ := own_setO hM hb i x
    exact ⟨M', e'.trans e, hM'⟩
  · exact ⟨M, e, OwnG.but hM hkb hb⟩
def Kz : Kt := ⟨0, 0, false⟩
def fxL (L : List Kt) (j : Nat) : Int := (L.getD j Kz).x
def fyL (L : List Kt) (j : Nat) : Int := (L.getD j Kz).y
def foL (L : List Kt) (j : Nat) : Bool := (L.getD j Kz).o
theorem RdKl.fn {w : World} {B : Nat} {A : Option Addr} {L : List Kt} (h : RdKl w B A L) : RdK w B A L.length (fxL L) (fyL L) (foL L) := fun hn => by
  obtain ⟨b, o, rfl, hb, hc⟩ := h hn
  refine ⟨b, o, rfl, hb, fun j hj => ?_⟩
  have e : L[j]? = some (L.getD j Kz) := by rw [List.getD_eq_getElem?_getD, List.getElem?_eq_getElem hj]; rfl
  exact ⟨hc j _ e 0 (by omega), hc j _ e 1 (by omega), hc j _ e 2 (by omega)⟩
theorem fn_in {L : List Kt} (h : ∀ k, k ∈ L → InP k.x k.y) : ∀ j, j < L.length → InP (fxL L j) (fyL L j) := fun j hj => by
  have e : L.getD j Kz = L[j] := by rw [List.getD_eq_getElem?_getD, List.getElem?_eq_getElem hj]; rfl
  unfold fxL fyL
  rw [e]
  exact h _ (List.getElem_mem hj)
theorem rev_get {L : List Kt} {j : Nat} (hj : j < L.length) : L.reverse.getD j Kz = L.getD (L.length - 1 - j) Kz := by
  rw [List.getD_eq_getElem?_getD, List.getElem?_reverse hj, ← List.getD_eq_getElem?_getD]
/-- What the law asks of the pieces. -/
theorem segs_rev (L : List Kt) : (segsL L.length (fxL L) (fyL L) (foL L)).Perm ((segsL L.length (fxL L.reverse) (fyL L.reverse) (foL L.reverse)).map (fb true)) := by
  have e : fb true = flipS := by funext s; rfl
  rw [e]
  exact segs_flipped (fun j hj => by unfold fxL; rw [rev_get hj]) (fun j hj => by unfold fyL; rw [rev_get hj]) (fun j hj => by unfold foL; rw [rev_get hj])
/-- A contour of it: its header's cell, and a knot's first cell. -/
theorem WrO.rowO {w : World} {base : Nat} {v : Value} {LL : List (List Kt)} (h : WrO w base v LL) {j : Nat} {L : List Kt} (hj : LL[j]? = some L) : ∃ g c A' c', v = .slice (some ⟨g, 0, none⟩) LL.length c ∧ g < w.heap.size ∧ w.cell? ⟨g, j, none⟩ = some (.slice A' L.length c') ∧
    ∀ i, i < L.length → ∃ q x M, A' = some ⟨q, 0, none⟩ ∧ base ≤ q ∧ q < w.heap.size ∧ g ≠ q ∧ w.cell? ⟨q, i * 3 + 2, none⟩ = some (.bool x) ∧ w.frozen? ⟨q, i * 3 + 2, none⟩ = false ∧ OwnK w base (.slice A' L.length c') M := by
  obtain ⟨hs, hl, ho, hK⟩ := h
  have hne : 23 ≠ 39 := by decide
  have hjl : j < LL.length := by
    rcases Nat.lt_or_ge j LL.length with h | h
    · exact h
    · rw [List.getElem?_eq_none h] at hj; cases hj
  have h1 : hs[j]? = some hs[j] := List.getElem?_eq_getElem (by omega)
  obtain ⟨M, e, hM⟩ := hK j _ L h1 hj
  generalize hs[j] = x at *
  obtain ⟨A, c, rfl, _, hr⟩ := OwnG.rd (by omega) hdL_len ho
  rcases ho.2 with ⟨h0, h0'⟩ | ⟨g, cap, cur, h0, _⟩
  · omega
  · injection h0 with h0 h0a h0b
    subst h0
    obtain ⟨b, o, e1, hb, hc⟩ := hr (by omega)
    injection e1 with e1
    injection e1 with e1 e2
    subst e1 e2
    obtain ⟨A2, c2, e3, _, hr2⟩ := OwnG.rd (by omega) knL_len hM
    injection e3 with e3 e4 e5
    have h3 := hc j x h1 0 (by omega)
    rw [Nat.zero_add, Nat.mul_one, Nat.add_zero] at h3
    refine ⟨g, c, x.A, x.c, by rw [hl], hb, by rw [h3, ← e, ← e4]; rfl, fun i hi => ?_⟩
    obtain ⟨q, o2, e6, hq, hc2⟩ := hr2 (by omega)
    rcases hM.2 with ⟨h7, h7'⟩ | ⟨g', cap', cur', h7, hb', _⟩
    · omega
    · injection h7 with h7 h7a h7b
      rw [e3, e6] at h7
      injection h7 with h7
      injection h7 with h7 h8
      subst h7 h8
      have h9 := hc2 i _ (List.getElem?_eq_getElem (by omega)) 2 (by omega)
      rw [Nat.zero_add] at h9
      have hM' : OwnK w base (.slice x.A L.length x.c) M := by rw [← e, ← e4]; exact hM
      have hA : x.A = some ⟨q, 0, none⟩ := by rw [e3, e6]
      have hor : w.ownsRow base 39 3 (.slice (some ⟨q, 0, none⟩) M.length x.c) M.length (cellsG knL M) := by
        have := hM
        unfold OwnK OwnG at this
        rw [hA, e4] at this
        exact this
      refine ⟨q, M[i].o, M, hA, hb', hq, fun eg => own_apart ho hM hne (q := g) rfl (by rw [hA, eg]; rfl), h9, World.ownsRow.frozenAt hor _, hM'⟩

theorem lens_le_rev {LL : List (List Kt)} {m : Nat} (h : ∀ L, L ∈ LL → L.length ≤ m) : ∀ L, L ∈ LL.map List.reverse → L.length ≤ m := fun L hL => by
  rw [List.mem_map] at hL
  obtain ⟨M, hM, rfl⟩ := hL
  rw [List.length_reverse]
  exact h M hM
theorem ou_flip_s (A : Option Addr) (c : Nat) (LL : List (List Kt)) (w : World) (h : RdOL w w.heap.size A LL) (hn : LL.length ≤ 1000000) (hm : ∀ L, L ∈ LL → L.length ≤ 1000000) :
    Calls Try.prog 23 #[.slice A LL.length c] w fun e w' => ∃ A' c' base, e = .returned (.slice A' LL.length c') ∧ w.heap.size ≤ base ∧ OwnO w' base (.slice A' LL.length c') (LL.map List.reverse) ∧ Since w w' := by
  refine (ou_flip A c LL w h hn hm).mono ?_
  rintro e w' ⟨v, base, rfl, hb, hO, hS⟩
  obtain ⟨A', c', rfl, _, _⟩ := hO.rd
  rw [List.length_map] at hO ⊢
  exact ⟨A', c', base, rfl, hb, hO, hS⟩
theorem same_rev (A A' : Option Addr) (c c' : Nat) (LL : List (List Kt)) (base : Nat) (w : World) (h : OwnO w base (.slice A LL.length c) (LL.map List.reverse)) (h' : RdOL w w.heap.size A' (LL.map List.reverse)) (hn : LL.length ≤ maxLen) (hm : ∀ L, L ∈ LL → L.length ≤ maxLen) :
    Calls Try.prog 18 #[.slice A LL.length c, .slice A' LL.length c'] w fun e w' => e = .returned (.bool true) ∧ Since w w' := by
  obtain ⟨A2, c2, e, _, hr⟩ := h.rd
  injection e with e1 e2 e3
  subst e1
  have hx := rf_sameL A A' c c' (LL.map List.reverse) w hr h' (by rw [List.length_map]; exact hn) (lens_le_rev hm)
  rw [List.length_map] at hx
  exact hx
set_option maxRecDepth 1000000 in
set_option maxHeartbeats 32000000 in
theorem walk_outlineflips (A : Option Addr) (c : Nat) (LL : List (List Kt)) (w : World) (h : RdOL w w.heap.size A LL) (hn : LL.length ≤ maxLen) (hm : ∀ L, L ∈ LL → L.length ≤ maxLen) (hin : ∀ L, L ∈ LL → ∀ k, k ∈ L → InP k.x k.y) :
    Calls Try.prog 6 #[.slice A LL.length c] w fun e w' => e = .returned (.bool true) ∧ Since w w' := by
  have hgr := fun w (h : RdOL w w.heap.size A LL) => rf_great A c LL w h hn hm
  have HG := Lib.hid hgr
  have HIN := Lib.hid hin
  clear hgr hin
  go_enter Try.func6, Try.ntmps6
  go_upto_if 11 with (first | (go_at_call 14; (with_reducible refine (alive11 _).mono ?_); rintro e w1 ⟨rfl, hS1⟩; have hR1 := h.on hS1; clear h) | (go_at_call 21; (with_reducible refine (HG.out _ hR1).mono ?_); rintro e w2 ⟨g, rfl, hng, hS2⟩; have hR2 := hR1.on hS2; have hT2 := hS1.trans hS2; have HNG := Lib.hid hng; clear hng hR1 hS1 hS2))
  cases g
  · obtain ⟨n6, n5, n9⟩ := HNG.out rfl
    have n5' : ∀ L, L ∈ LL → L.length ≤ 1000000 := fun L hL => by have := n5 L hL; omega
    have N5 := Lib.hid n5'
    have M5 := Lib.hid n5
    clear n5 n5' HNG HG hm
    have hle : ∀ L, L ∈ LL → L.length ≤ maxLen := fun L hL => by have := N5.out L hL; simp only [maxLen]; omega
    have hLE := Lib.hid hle
    clear hle
    have tok1 := True.intro
    have hne : ∀ (S : Nat) (w : World), (if (S : Int) = (S : Int) then true else false) = true := fun S w => by simp
    clear hne
    go_upto_region 9 with (first | (go_at_call 22; (with_reducible refine (rf_copy A c LL _ hR2 (by omega) N5.out).mono ?_); rintro e w3 ⟨A3, c3, rfl, hR3, hS3⟩; have hR23 := hR2.on hS3; have hT3 := hT2.trans hS3; clear hR2 hT2) | (go_at_call 23; (with_reducible refine (ou_flip_s A3 c3 LL _ hR3 (by omega) N5.out).mono ?_); rintro e w4 ⟨A4, c4, base, rfl, hbase, hO4, hS4⟩; have hR34 := hR3.on hS4; have hR24 := hR23.on hS4) | (go_at_call 24; (with_reducible refine (rf_flip A c LL _ hR24 (by omega) N5.out).mono ?_); rintro e w5 ⟨A5, c5, rfl, hR5, hS5⟩; have hO5 := hO4.since hS5; have hR35 := hR34.on hS5; have hR25 := hR24.on hS5) | (go_at_call 18; (with_reducible refine (same_rev A4 A5 c4 c5 LL base _ hO5 hR5 hn hLE.out).mono ?_); rintro e w6 ⟨rfl, hS6⟩; have hO6 := hO5.since hS6; have hR36 := hR35.on hS6; have hR26 := hR25.on hS6; clear hR5) | (go_at_call 25; (with_reducible refine (ou_knots A3 c3 LL _ hR36 n6 M5.out).mono ?_); rintro e w7 ⟨rfl, hS7⟩; have hO7 := hO6.since hS7; have hR37 := hR36.on hS7; have hR27 := hR26.on hS7) | (go_at_call 26; (with_reducible refine (rf_knots A c LL _ hR27 n6 M5.out).mono ?_); rintro e w8 ⟨rfl, hS8⟩; have hO8 := hO7.since hS8; have hR38 := hR37.on hS8; have hR28 := hR27.on hS8) | (go_at_call 18; (with_reducible refine (rf_sameL A3 A c3 c LL _ hR38 hR28 hn hLE.out).mono ?_); rintro e w9 ⟨rfl, hS9⟩; have hO9 := hO8.since hS9; have hR39 := hR38.on hS9; have hR29 := hR28.on hS9; have hT9 : Since w3 w9 := ((((hS4.trans hS5).trans hS6).trans hS7).trans hS8).trans hS9))
    clear hO4 hO5 hO6 hO7 hO8 hR34 hR24 hR35 hR25 hR36 hR26 hR37 hR27 hR38 hR28 hS4 hS5 hS6 hS7 hS8 hS9 tok1
    obtain ⟨A9, c9, hv9, hlc9, hP9⟩ := hO9.rd
    obtain ⟨N, hN⟩ : ∃ N, N = LL.length := ⟨_, rfl⟩
    have HN := Lib.hid hN
    rw [List.length_map] at hv9
    injection hv9 with hv9 hv9a hv9b
    rw [← hv9] at hP9
    clear hlc9
    clear hv9 hv9a hv9b
    rw [← hN] at hO9 hn n6 ⊢
    have HO9 := Lib.hid hO9
    have hNI : (N : Int) ≤ 600 := by omega
    clear hN hO9
    have hwb : w3.heap.size ≤ base := hbase
    go_wp2_with fail
    go_loopw [36] (fun y wr => ∃ i : Nat, i ≤ N ∧ y = .int .i64 (i : Int) ∧ Since w9 wr) (fun y _ => N - (intOf y).toNat)
    case atStart => exact ⟨0, by omega, rfl, Since.refl _⟩
    case round =>
      obtain ⟨i, hi, rfl, hSr⟩ := hrel
      by_cases hiN : i < N
      · have hiN' : (i : Int) < N := by omega
        have hiL : i < LL.length := by rw [← HN.out]; exact hiN
        have hL : LL[i]? = some LL[i] := List.getElem?_eq_getElem hiL
        have hL2 : (LL.map List.reverse)[i]? = some LL[i].reverse := by rw [List.getElem?_map, hL]; rfl
        have hml := M5.out _ (List.getElem_mem hiL)
        have hfi := fn_in (HIN.out _ (List.getElem_mem hiL))
        have hfr := fn_in (L := LL[i].reverse) (fun k hk => HIN.out _ (List.getElem_mem hiL) k (List.mem_reverse.1 hk))
        obtain ⟨b, o, A1, c1', rfl, hb, hc1, hK1⟩ := (hR29.on hSr).row hL
        obtain ⟨g, og, A2, c2', rfl, hg, hc2, hK2⟩ := (hP9.on hSr).row hL2
        have hF1 := hK1.fn
        have hF2 := hK2.fn
        have hpm := segs_rev LL[i]
        rw [List.length_reverse] at hc2 hF2 hfr
        generalize LL[i] = L at *
        obtain ⟨n, hnl⟩ : ∃ n, n = L.length := ⟨_, rfl⟩
        rw [← hnl] at hc1 hc2 hF1 hF2 hfi hfr hpm hml
        have HPM := Lib.hid hpm
        have HF1 := Lib.hid hfi
        have HF2 := Lib.hid hfr
        have hl1 := segsL_len n (fxL L) (fyL L) (foL L)
        clear hnl hL hL2 hiL hK1 hK2 hpm hfi hfr
        go_upto_region 12 with fail
        go_cut [58] (fun z wx => z = .bool false ∧ Since wr wx)
        case first =>
          by_cases h3 : n < 300
          · have d1 : decide ((n : Int) < 300) = true := by simp; omega
            go_region_held3 (fun w' => w'.cell? ⟨b, o + i, none⟩ = some (.slice A1 n c1') ∧ w'.cell? ⟨g, og + i, none⟩ = some (.slice A2 n c2')) ((refine ⟨?_, ?_⟩ <;> (first | with_reducible assumption | exact k1 | exact k2 | exact hc1 | exact hc2))) ((first
              | (go_at_call 15; (with_reducible refine (ou_segs_rd A1 n c1' (fxL L) (fyL L) (foL L) _ (hF1.on (by (repeat (first | with_reducible (exact Since.refl _) | with_reducible assumption | with_reducible (refine Since.drew ?_) | with_reducible (refine Since.drewN ?_ _) | with_reducible (refine Since.alloc ?_ _) | (with_reducible (refine Since.setCell ?_ ?_ _); rotate_left; focus (first | (simp; done) | (simp; omega) | omega)) | (with_reducible (refine Since.trans ?_ (by with_reducible assumption))))))) HF1.out (by omega)).mono ?_); rintro e w10 ⟨A8, c8, rfl, hR8, hS10⟩; have hT10 : Since wr w10 := (by (repeat (first | with_reducible (exact Since.refl _) | with_reducible assumption | with_reducible (refine Since.drew ?_) | with_reducible (refine Since.drewN ?_ _) | with_reducible (refine Since.alloc ?_ _) | (with_reducible (refine Since.setCell ?_ ?_ _); rotate_left; focus (first | (simp; done) | (simp; omega) | omega)) | (with_reducible (refine Since.trans ?_ (by with_reducible assumption)))))); have k1 := (hT10.1 _ _ hb).trans hc1; have k2 := (hT10.1 _ _ hg).trans hc2)
              | (go_at_call 15; (with_reducible refine (ou_segs_rd A2 n c2' (fxL L.reverse) (fyL L.reverse) (foL L.reverse) _ (hF2.on (by (repeat (first | with_reducible (exact Since.refl _) | with_reducible assumption | with_reducible (refine Since.drew ?_) | with_reducible (refine Since.drewN ?_ _) | with_reducible (refine Since.alloc ?_ _) | (with_reducible (refine Since.setCell ?_ ?_ _); rotate_left; focus (first | (simp; done) | (simp; omega) | omega)) | (with_reducible (refine Since.trans ?_ (by with_reducible assumption))))))) HF2.out (by omega)).mono ?_); rintro e w11 ⟨A9, c9, rfl, hR9, hS11⟩; have hT11 : Since w10 w11 := (by (repeat (first | with_reducible (exact Since.refl _) | with_reducible assumption | with_reducible (refine Since.drew ?_) | with_reducible (refine Since.drewN ?_ _) | with_reducible (refine Since.alloc ?_ _) | (with_reducible (refine Since.setCell ?_ ?_ _); rotate_left; focus (first | (simp; done) | (simp; omega) | omega)) | (with_reducible (refine Since.trans ?_ (by with_reducible assumption)))))); have hR89 := hR8.on hT11; have hW11 := hT10.trans hT11; clear k1 k2; have k1 := (hW11.1 _ _ hb).trans hc1; have k2 := (hW11.1 _ _ hg).trans hc2)
              | (go_at_call 27; (with_reducible refine (rf_alike A8 A9 c8 c9 _ _ true _ (hR89.on (by (repeat (first | with_reducible (exact Since.refl _) | with_reducible assumption | with_reducible (refine Since.drew ?_) | with_reducible (refine Since.drewN ?_ _) | with_reducible (refine Since.alloc ?_ _) | (with_reducible (refine Since.setCell ?_ ?_ _); rotate_left; focus (first | (simp; done) | (simp; omega) | omega)) | (with_reducible (refine Since.trans ?_ (by with_reducible assumption))))))) (hR9.on (by (repeat (first | with_reducible (exact Since.refl _) | with_reducible assumption | with_reducible (refine Since.drew ?_) | with_reducible (refine Since.drewN ?_ _) | with_reducible (refine Since.alloc ?_ _) | (with_reducible (refine Since.setCell ?_ ?_ _); rotate_left; focus (first | (simp; done) | (simp; omega) | omega)) | (with_reducible (refine Since.trans ?_ (by with_reducible assumption))))))) HPM.out (by omega)).mono ?_); rintro e w12 ⟨rfl, hS12⟩; have hT12 : Since wr w12 := (by (repeat (first | with_reducible (exact Since.refl _) | with_reducible assumption | with_reducible (refine Since.drew ?_) | with_reducible (refine Since.drewN ?_ _) | with_reducible (refine Since.alloc ?_ _) | (with_reducible (refine Since.setCell ?_ ?_ _); rotate_left; focus (first | (simp; done) | (simp; omega) | omega)) | (with_reducible (refine Since.trans ?_ (by with_reducible assumption)))))); clear k1 k2; have k1 := (hT12.1 _ _ hb).trans hc1; have k2 := (hT12.1 _ _ hg).trans hc2)))
            all_goals (go_wp2_with fail)
            all_goals go_meet
            all_goals exact ⟨rfl, by (repeat (first | with_reducible (exact Since.refl _) | with_reducible assumption | with_reducible (refine Since.drew ?_) | with_reducible (refine Since.drewN ?_ _) | with_reducible (refine Since.alloc ?_ _) | (with_reducible (refine Since.setCell ?_ ?_ _); rotate_left; focus (first | (simp; done) | (simp; omega) | omega)) | (with_reducible (refine Since.trans ?_ (by with_reducible assumption)))))⟩
          · have d1 : decide ((n : Int) < 300) = false := by simp; omega
            go_region
            all_goals (go_wp2_with fail)
            all_goals go_meet
            all_goals exact ⟨rfl, by (repeat (first | with_reducible (exact Since.refl _) | with_reducible assumption | with_reducible (refine Since.drew ?_) | with_reducible (refine Since.drewN ?_ _) | with_reducible (refine Since.alloc ?_ _) | (with_reducible (refine Since.setCell ?_ ?_ _); rotate_left; focus (first | (simp; done) | (simp; omega) | omega)) | (with_reducible (refine Since.trans ?_ (by with_reducible assumption)))))⟩
        obtain ⟨rfl, hS13⟩ := hcut
        go_wp2_with fail
        go_roundw
        case rel => exact ⟨i + 1, by omega, by go_num, hSr.trans hS13⟩
        case measure => simp [intOf]; omega
      · obtain rfl : N = i := by omega
        have hWr := (HO9.out.since hSr).wr
        have hSr9 := hT9.trans hSr
        go_wp2_with fail
        go_loopw [62] (fun y wr => ∃ i : Nat, i ≤ N ∧ y = .int .i64 (i : Int) ∧ WrO wr base (.slice A4 N c4) (LL.map List.reverse) ∧ Since w3 wr) (fun y _ => N - (intOf y).toNat)
        case atStart => exact ⟨0, by omega, rfl, hWr, hSr9⟩
        case round =>
          obtain ⟨i, hi, rfl, hW, hS⟩ := hrel
          by_cases hiN : i < N
          · have hiN' : (i : Int) < N := by omega
            have hiL : i < LL.length := by rw [← HN.out]; exact hiN
            have hL : (LL.map List.reverse)[i]? = some (LL[i].reverse) := by rw [List.getElem?_map, List.getElem?_eq_getElem hiL]; rfl
            have hml : (LL[i].reverse).length ≤ 1000000 := by rw [List.length_reverse]; exact N5.out _ (List.getElem_mem hiL)
            have HL := Lib.hid hL
            generalize LL[i].reverse = L at *
            clear hL hiL
            obtain ⟨g, c5', A', c', hv, hg, hcell, hrow⟩ := hW.rowO HL.out
            injection hv with hv hva hvb
            subst hv
            clear hva hvb hrow
            obtain ⟨m, hm⟩ : ∃ m, m = L.length := ⟨_, rfl⟩
            rw [← hm] at hml hcell
            have HMM := Lib.hid hm
            clear hm
            go_wp2_with fail
            go_loopw [70] (fun y wr' => ∃ k : Nat, k ≤ m ∧ y = .int .i64 (k : Int) ∧ WrO wr' base (.slice (some ⟨g, 0, none⟩) N c4) (LL.map List.reverse) ∧ Since w3 wr') (fun y _ => m - (intOf y).toNat)
            case atStart => exact ⟨0, by omega, rfl, hW, hS⟩
            case round =>
              obtain ⟨k, hk, rfl, hW, hS⟩ := hrel
              by_cases hkm : k < m
              · have hkm' : (k : Int) < m := by omega
                obtain ⟨g2, c6, A2, c2, hv, hg2, hcell2, hrow⟩ := hW.rowO HL.out
                injection hv with hv hva hvb
                injection hv with hv
                injection hv with hv hv2
                subst hv
                obtain ⟨q, x, M, rfl, hbq, hqs, hgq, hx, hf, hO⟩ := hrow k (by rw [← HMM.out]; exact hkm)
                rw [← HMM.out] at hcell2
                have HO := Lib.hid hO
                have HW := Lib.hid hW
                have hqw : w3.heap.size ≤ q := by omega
                clear hva hvb hv2 hrow hO hW hcell hg
                go_upto_region 21 with fail
                go_region
                all_goals (go_wp2_with fail)
                all_goals go_roundw
                all_goals first
                  | (simp [intOf]; omega)
                  | exact ⟨k + 1, by omega, by go_num, (HW.out.since (by (repeat (first | with_reducible (exact Since.refl _) | with_reducible assumption | with_reducible (refine Since.drew ?_) | with_reducible (refine Since.drewN ?_ _) | with_reducible (refine Since.alloc ?_ _) | (with_reducible (refine Since.setCell ?_ ?_ _); rotate_left; focus (first | (simp; done) | (simp; omega) | omega)) | (with_reducible (refine Since.trans ?_ (by with_reducible assumption))))))).putO (OwnG.since HO.out (by (repeat (first | with_reducible (exact Since.refl _) | with_reducible assumption | with_reducible (refine Since.drew ?_) | with_reducible (refine Since.drewN ?_ _) | with_reducible (refine Since.alloc ?_ _) | (with_reducible (refine Since.setCell ?_ ?_ _); rotate_left; focus (first | (simp; done) | (simp; omega) | omega)) | (with_reducible (refine Since.trans ?_ (by with_reducible assumption))))))) rfl k _, (hS.drew).setCell hqw _⟩
              · obtain rfl : m = k := by omega
                go_wp2_with fail
                go_roundw
                case rel => exact ⟨i + 1, by omega, by go_num, hW, hS⟩
                case measure => simp [intOf]; omega
          · obtain rfl : N = i := by omega
            have hRa := hR3.on hS
            have hRb := hR23.on hS
            have hsm := rf_sameL A3 A c3 c LL _ hRa hRb (by rw [← HN.out]; exact hn) hLE.out
            rw [← HN.out] at hsm
            go_wp2_with (go_at_call 18; (with_reducible refine hsm.mono ?_); rintro e w7 ⟨rfl, hS7⟩)
            go_ret
            exact ⟨rfl, (hT3.trans hS).trans hS7⟩
  · go_wp2_with fail
    go_ret
    exact ⟨rfl, hT2⟩
end Go.Proofs.Ytdbenpncnkfliaa
