/-
  slices.Reverse of an own row of knots, walked.
-/
import Derived.Test.YtdbenpncnkfliaaKitR
namespace Go.Proofs.Ytdbenpncnkfliaa
open Go.RowKit Go.ChangeShapes Go.WideShapes Go.Deep
set_option linter.unusedVariables false

theorem OwnG.drew {α : Type} {enc : α → List Value} {t : TypeId} {k base : Nat} {w : World} {v : Value} {L : List α} (h : OwnG t k enc w base v L) : OwnG t k enc w.drew base v L := h
theorem KeepBut.drew {q : Nat} {a b : World} (h : KeepBut q a b) : KeepBut q a b.drew := h
def K00 : Kt := ⟨0, 0, false⟩
/-- The first k and the last k exchanged. -/
def revk (L : List Kt) (k : Nat) : List Kt := (List.range L.length).map fun t => if t < k ∨ L.length - k ≤ t then L.getD (L.length - 1 - t) K00 else L.getD t K00
theorem revk_len (L : List Kt) (k : Nat) : (revk L k).length = L.length := by simp [revk]
theorem revk_get {L : List Kt} {k t : Nat} (ht : t < L.length) : (revk L k)[t]? = some (if t < k ∨ L.length - k ≤ t then L.getD (L.length - 1 - t) K00 else L.getD t K00) := by
  unfold revk
  rw [List.getElem?_map, List.getElem?_range ht]
  rfl
theorem revk_zero (L : List Kt) : revk L 0 = L := by
  apply List.ext_getElem?
  intro t
  by_cases ht : t < L.length
  · rw [revk_get ht, if_neg (by omega), List.getD_eq_getElem?_getD, List.getElem?_eq_getElem ht]
    rfl
  · rw [List.getElem?_eq_none (by rw [revk_len]; omega), List.getElem?_eq_none (by omega)]
theorem revk_end {L : List Kt} {k : Nat} (hk : L.length ≤ 2 * k + 1) : revk L k = L.reverse := by
  apply List.ext_getElem?
  intro t
  by_cases ht : t < L.length
  · rw [revk_get ht, List.getElem?_reverse ht]
    have e : L[L.length - 1 - t]? = some L[L.length - 1 - t] := List.getElem?_eq_getElem (by omega)
    by_cases hc : t < k ∨ L.length - k ≤ t
    · rw [if_pos hc, List.getD_eq_getElem?_getD, e]; rfl
    · have e2 : L.length - 1 - t = t := by omega
      rw [if_neg hc, List.getD_eq_getElem?_getD, e2, List.getElem?_eq_getElem ht]; rfl
  · rw [List.getElem?_eq_none (by rw [revk_len]; omega), List.getElem?_eq_none (by simp; omega)]
theorem revk_step {L : List Kt} {k J : Nat} (hJ : J = L.length - 1 - k) (hkJ : k < J) : ((revk L k).set k (L.getD J K00)).set J (L.getD k K00) = revk L (k + 1) := by
  apply List.ext_getElem?
  intro t
  have hl := revk_len L k
  by_cases ht : t < L.length
  · rw [revk_get ht]
    by_cases e1 : t = J
    · subst e1
      rw [List.getElem?_set_self (by rw [List.length_set, hl]; omega), if_pos (by omega), show L.length - 1 - t = k by omega]
    · rw [List.getElem?_set_ne (fun e => e1 e.symm)]
      by_cases e2 : t = k
      · subst e2
        rw [List.getElem?_set_self (by rw [hl]; omega), if_pos (by omega), show L.length - 1 - t = J by omega]
      · rw [List.getElem?_set_ne (fun e => e2 e.symm), revk_get ht]
        by_cases hc : t < k ∨ L.length - k ≤ t
        · rw [if_pos hc, if_pos (by omega)]
        · rw [if_neg hc, if_neg (by omega)]
  · rw [List.getElem?_eq_none (by rw [List.length_set, List.length_set, hl]; omega), List.getElem?_eq_none (by rw [revk_len]; omega)]
def RevOut (w : World) (base q n : Nat) (L : List Kt) (e : Ending) (w' : World) : Prop := (∃ v, e = .returned v) ∧ OwnK w' base (.slice (some ⟨q, 0, none⟩) n n) L.reverse ∧ KeepBut q w w' ∧ ∀ w0, Since w0 w → w0.heap.size ≤ q → Since w0 w'
set_option maxRecDepth 1000000 in
set_option maxHeartbeats 16000000 in
theorem ou_reverse (base q n : Nat) (L : List Kt) (w : World) (h : OwnK w base (.slice (some ⟨q, 0, none⟩) n n) L) (hL : L.length = n) (hn : n ≤ 1000000) :
    Calls Try.prog 52 #[.slice (some ⟨q, 0, none⟩) n n] w (RevOut w base q n L) := by
  have h0 : OwnK w base (.slice (some ⟨q, 0, none⟩) n n) (revk L 0) := by rw [revk_zero]; exact h
  have HL := Lib.hid hL
  clear h hL
  have u0 : IntKind.i64.wrap ((n : Int) - 1) = (n : Int) - 1 := IntWalk.i64_in _ (by omega)
  go_enter Try.func52, Try.ntmps52
  go_wp2_with fail
  go_loopw [2, 3] (fun x y wr => ∃ k : Nat, 2 * k ≤ n + 1 ∧ x = .int .i64 (k : Int) ∧ y = .int .i64 ((n : Int) - 1 - (k : Int)) ∧ OwnK wr base (.slice (some ⟨q, 0, none⟩) n n) (revk L k) ∧ KeepBut q w wr ∧ Hid (∀ w0, Since w0 w → w0.heap.size ≤ q → Since w0 wr)) (fun x _ _ => n - (intOf x).toNat)
  case atStart => exact ⟨0, by omega, rfl, by simp, h0, KeepBut.refl _ _, Lib.hid (fun w0 h _ => h)⟩
  case round =>
    obtain ⟨k, hk, rfl, rfl, hO, hK, HS⟩ := hrel
    by_cases hkn : 2 * k + 1 < n
    · obtain ⟨J, hJ⟩ : ∃ J, J = n - 1 - k := ⟨_, rfl⟩
      have hJI : (n : Int) - 1 - (k : Int) = (J : Int) := by omega
      have hkJ : k < J := by omega
      have hkJ' : (k : Int) < (J : Int) := by omega
      have hJn : J < n := by omega
      have hJn' : (J : Int) < (n : Int) := by omega
      have hkn' : (k : Int) < (n : Int) := by omega
      rw [hJI]
      have u1 : IntKind.i64.wrap ((k : Int) + 1) = (k : Int) + 1 := IntWalk.i64_in _ (by omega)
      have u2 : IntKind.i64.wrap ((J : Int) - 1) = (J : Int) - 1 := IntWalk.i64_in _ (by omega)
      have hstep := revk_step (L := L) (k := k) (J := J) (by rw [HL.out]; exact hJ) hkJ
      have HST := Lib.hid hstep
      have hlk : (revk L k)[k]? = some (L.getD k K00) := by rw [revk_get (by rw [HL.out]; omega), if_neg (by rw [HL.out]; omega)]
      have hlJ : (revk L k)[J]? = some (L.getD J K00) := by rw [revk_get (by rw [HL.out]; omega), if_neg (by rw [HL.out]; omega)]
      have hrl : (revk L k).length = n := by rw [revk_len, HL.out]
      obtain ⟨A2, c2, e2, _, hr2⟩ := OwnG.rd (by omega) knL_len hO
      injection e2 with e2 e2a e2b
      subst e2
      clear e2a e2b
      obtain ⟨b3, o3, e4, hb3, hc3⟩ := hr2 (by omega)
      injection e4 with e4
      injection e4 with e5 e6 e7
      subst e5 e6
      clear e7
      have p := hc3 k _ hlk
      have r := hc3 J _ hlJ
      have p1 := p 0 (by omega); have p2 := p 1 (by omega); have p3 := p 2 (by omega)
      have r1 := r 0 (by omega); have r2 := r 1 (by omega); have r3 := r 2 (by omega)
      generalize L.getD k K00 = a at *
      generalize L.getD J K00 = z at *
      obtain ⟨ax, ay, ao⟩ := a
      obtain ⟨zx, zy, zo⟩ := z
      simp only [knL, List.getD_cons_succ, List.getD_cons_zero, Nat.add_zero, Nat.zero_add] at p1 p2 p3 r1 r2 r3
      have hor : wr.ownsRow base 39 3 (.slice (some ⟨q, 0, none⟩) n n) n (cellsG knL (revk L k)) := by
        have hx := hO
        unfold OwnK OwnG at hx
        rw [hrl] at hx
        exact hx
      have f1 := World.ownsRow.frozenAt hor (k * 3); have f2 := World.ownsRow.frozenAt hor (k * 3 + 1); have f3 := World.ownsRow.frozenAt hor (k * 3 + 2)
      have g1 := World.ownsRow.frozenAt hor (J * 3); have g2 := World.ownsRow.frozenAt hor (J * 3 + 1); have g3 := World.ownsRow.frozenAt hor (J * 3 + 2)
      have n1 : ¬ k * 3 = J * 3 := by omega
      have n2 : ¬ k * 3 = J * 3 + 1 := by omega
      have n3 : ¬ k * 3 = J * 3 + 2 := by omega
      have n4 : ¬ k * 3 + 1 = J * 3 := by omega
      have n5 : ¬ k * 3 + 1 = J * 3 + 1 := by omega
      have n6 : ¬ k * 3 + 1 = J * 3 + 2 := by omega
      have n7 : ¬ k * 3 + 2 = J * 3 := by omega
      have n8 : ¬ k * 3 + 2 = J * 3 + 1 := by omega
      have n9 : ¬ k * 3 + 2 = J * 3 + 2 := by omega
      have HO := Lib.hid hO
      have HRL := Lib.hid hrl
      clear hor p r hc3 hr2 hlk hlJ hrl hstep hO hJI
      have HJ := Lib.hid hJ
      clear hJ
      go_upto_region 3 with fail
      go_region
      go_wp2_with fail
      go_roundw
      case rel =>
        refine ⟨k + 1, by omega, by go_num, by have := HJ.out; congr 1; omega, ?_, KeepBut.drew ((((((hK.set _ _).set _ _).set _ _).set _ _).set _ _).set _ _), Lib.hid (fun w0 h1 h2 => Since.drew (((((((HS.out w0 h1 h2).setCell h2 _).setCell h2 _).setCell h2 _).setCell h2 _).setCell h2 _).setCell h2 _))⟩
        rw [← HST.out]
        refine OwnG.drew ?_
        exact OwnK.put (OwnK.put HO.out k _ _ _ (by rw [HRL.out]; omega)) J _ _ _ (by rw [List.length_set, HRL.out]; omega)
      case measure => simp [intOf]; omega
    · have hd : ¬ (k : Int) < (n : Int) - 1 - (k : Int) := by omega
      have hd2 : decide ((k : Int) < (n : Int) - 1 - (k : Int)) = false := by simp; omega
      have he := revk_end (L := L) (k := k) (by rw [HL.out]; omega)
      rw [he] at hO
      go_wp2_with fail
      refine bodyPost_ret (v := .tuple #[]) (by simp [results, Try.results52, go_sem]) rfl ?_
      exact ⟨⟨_, rfl⟩, hO, hK, HS.out⟩

/-- What 'Flip' answers. -/
def FlipOut (w : World) (LL : List (List Kt)) (e : Ending) (w' : World) : Prop :=
  ∃ v base, e = .returned v ∧ w.heap.size ≤ base ∧ OwnO w' base v (LL.map List.reverse) ∧ Since w w'
def KF0 : Kt := ⟨0, 0, false⟩
set_option maxRecDepth 1000000 in
set_option maxHeartbeats 32000000 in
theorem ou_flip (A : Option Addr) (c : Nat) (LL : List (List Kt)) (w : World) (h : RdOL w w.heap.size A LL) (hn : LL.length ≤ 1000000) (hm : ∀ L, L ∈ LL → L.length ≤ 1000000) :
    Calls Try.prog 23 #[.slice A LL.length c] w (FlipOut w LL) := by
  obtain ⟨N, hN⟩ : ∃ N, N = LL.length := ⟨_, rfl⟩
  rw [← hN] at hn ⊢
  have HN := Lib.hid hN
  have HM := Lib.hid hm
  clear hN hm
  have hNI : (0 : Int) ≤ (N : Int) := by omega
  go_enter Try.func23, Try.ntmps23
  go_wp2_with (at_make; refine wpList_make_g rfl _ _ 29 23 rfl (by omega) hdL_len 24 ⟨none, 0, 0⟩ Try.underlying29 infoCt2 N rfl rfl (by omega) (by simp only [maxLen]; omega) w.heap.size (Nat.le_refl _) ?_; intro w1 hO1 hg1)
  have hS1 : Since w w1 := since_grown (Since.refl w) hg1 (fun q hq => by cases hq)
  have hb1 := (hO1.lt (g := w.heap.size) rfl).2
  obtain ⟨hb0, hbe⟩ : ∃ hb0, hb0 = w.heap.size := ⟨_, rfl⟩
  have hbw : w.heap.size ≤ hb0 := by omega
  rw [← hbe] at hb1 ⊢
  have hO1 : OwnG 23 1 hdL w1 w.heap.size (.slice (some ⟨hb0, 0, none⟩) N N) (List.replicate N ⟨none, 0, 0⟩) := by rw [hbe]; exact hO1
  clear hbe hg1
  go_loopw [11] (fun y wr => ∃ (j : Nat) (hs : List Hd), j ≤ N ∧ y = .int .i64 (j : Int) ∧ hs.length = N ∧ OwnG 23 1 hdL wr w.heap.size (.slice (some ⟨hb0, 0, none⟩) N N) hs ∧ Since w wr ∧ Hid (∀ (i : Nat) x L, i < j → hs[i]? = some x → LL[i]? = some L → OwnK wr w.heap.size (.slice x.A x.n x.c) L.reverse)) (fun y _ => N - (intOf y).toNat)
  case atStart => exact ⟨0, _, by omega, rfl, by simp, hO1, hS1, Lib.hid (fun i x L hi => absurd hi (by omega))⟩
  case round =>
    obtain ⟨j, hs, hj, rfl, hsl, hO, hS, HK⟩ := hrel
    by_cases hjn : j < N
    · have hjn' : (j : Int) < N := by omega
      have hjL : j < LL.length := by rw [← HN.out]; exact hjn
      have hL : LL[j]? = some LL[j] := List.getElem?_eq_getElem hjL
      have hml := HM.out _ (List.mem_of_getElem? hL)
      have HLJ := Lib.hid hL
      generalize LL[j] = L at *
      obtain ⟨b, o, A', c', rfl, hb, hcell, hK⟩ := h.row hL
      have c1 := (hS.1 _ _ hb).trans hcell
      have hbw1 := hS.2.2.1 _ hb
      have hwz := hS.below.size
      have hbz := (hO.lt (g := hb0) rfl).2
      obtain ⟨n, hnl⟩ : ∃ n, n = L.length := ⟨_, rfl⟩
      rw [← hnl] at hml c1
      have HNL := Lib.hid hnl
      clear hL h hcell hjL hnl
      have hOr : wr.ownsRow w.heap.size 23 1 (.slice (some ⟨hb0, 0, none⟩) N N) N (cellsG hdL hs) := by
        have hx := hO
        unfold OwnG at hx
        rw [hsl] at hx
        exact hx
      have hfz := World.ownsRow.frozenAt hOr j
      clear hOr
      have hcj : wr.cell? ⟨hb0, j, none⟩ = some (.slice (hs.getD j ⟨none, 0, 0⟩).A (hs.getD j ⟨none, 0, 0⟩).n (hs.getD j ⟨none, 0, 0⟩).c) := by
        have hx : hs[j]? = some hs[j] := List.getElem?_eq_getElem (by omega)
        obtain ⟨A2, c2, e, _, hr2⟩ := hO.rd (by omega) hdL_len
        injection e with e1 e2 e3
        subst e1
        obtain ⟨b3, o3, e4, _, hc3⟩ := hr2 (by omega)
        injection e4 with e4
        injection e4 with e5 e6
        subst e5 e6
        have := hc3 j _ hx 0 (by omega)
        rw [Nat.zero_add, Nat.mul_one, Nat.add_zero] at this
        have hgd : hs.getD j ⟨none, 0, 0⟩ = hs[j] := by rw [List.getD_eq_getElem?_getD, hx]; rfl
        rw [this, hgd]
        rfl
      generalize hs.getD j ⟨none, 0, 0⟩ = h0 at *
      go_upto_region 6 with (at_make; refine wpList_make_g rfl _ _ 23 39 rfl (by omega) knL_len 24 KF0 Try.underlying23 infoKn2 n rfl rfl (by omega) (by simp only [maxLen]; omega) w.heap.size hwz ?_; intro w4 hO4 hg4; have hc4 := cell_grown hcj hbz hg4 (by simp); have hf4 : w4.frozen? ⟨hb0, j, none⟩ = false := (by rw [← hfz]; exact World.frozen?_of_block (hg4.block hb0 hbz (by simp))); have hz4 := Nat.lt_of_lt_of_le hbz hg4.size)
      obtain ⟨q, hq0⟩ : ∃ q, q = wr.heap.size := ⟨_, rfl⟩
      have hrows : Hid (∀ (i : Nat) x M, i < j → hs[i]? = some x → LL[i]? = some M → OwnK w4 w.heap.size (.slice x.A x.n x.c) M.reverse ∧ (Value.slice x.A x.n x.c).ownBlock ≠ some q) := Lib.hid (fun i x M h1 h2 h3 => by
        have hk := HK.out i x M h1 h2 h3
        exact ⟨OwnG.grown hk hg4 (fun q hq e => by cases e), fun e => by have := (hk.lt e).2; omega⟩)
      have hOh := OwnG.grown hO hg4 (fun q hq e => by cases e)
      have hS4 : Since w w4 := since_grown hS hg4 (fun q hq => by cases hq)
      have hbq : hb0 ≠ q := by omega
      have hqw : w.heap.size ≤ q := by omega
      have hq4 : q < w4.heap.size := by rw [hq0]; exact (hO4.lt rfl).2
      rw [← hq0] at hO4 ⊢
      clear hq0 hO hS HK hcj hfz hg4 c1 hbw1 hwz hbz
      have hne : 23 ≠ 39 := by decide
      go_upto_region 6 with fail
      refine wp_named fun w5 hw5 => ?_
      have hkb : KeepBut hb0 w4 w5 := by subst hw5; exact (KeepBut.refl hb0 w4).set j _
      have hc5 : w5.cell? ⟨hb0, j, none⟩ = some (.slice (some ⟨q, 0, none⟩) n n) := by subst hw5; rw [cell_set, if_pos ⟨rfl, rfl⟩, hc4]; rfl
      have hOw4 := hOh
      have hOh : OwnG 23 1 hdL w5 w.heap.size (.slice (some ⟨hb0, 0, none⟩) N N) (hs.set j ⟨some ⟨q, 0, none⟩, n, n⟩) := by subst hw5; exact OwnH.put hOh j (some ⟨q, 0, none⟩) n n (by omega)
      have hO5 := OwnG.but hO4 hkb (fun e => by injection e with e; exact hbq e.symm)
      have hS5 : Since w w5 := by subst hw5; exact hS4.setCell hbw _
      have hz5 := hkb.1
      have hb5 : hb0 < w5.heap.size := by omega
      have HR5 : Hid (∀ (i : Nat) x M, i < j → hs[i]? = some x → LL[i]? = some M → OwnK w5 w.heap.size (.slice x.A x.n x.c) M.reverse ∧ (Value.slice x.A x.n x.c).ownBlock ≠ some q) := Lib.hid (fun i x M h1 h2 h3 => by
        obtain ⟨hk, hx⟩ := hrows.out i x M h1 h2 h3
        refine ⟨OwnG.but hk hkb (fun e => ?_), hx⟩
        exact own_apart hOw4 hk hne rfl e)
      clear hkb hc4 hf4 hz4 hOw4 hO4 hrows hS4 hq4 hw5
      have hK5 := (hK.since (Nat.le_refl _) hS5)
      have hlr : (List.replicate n KF0).length = n := by simp
      go_upto_region 6 with fail
      go_cut [] (fun wx => OwnK wx w.heap.size (.slice (some ⟨q, 0, none⟩) n n) L ∧ KeepBut q w5 wx ∧ Since w wx)
      case first =>
        by_cases hn0 : n = 0
        · have hLn : L = [] := List.eq_nil_of_length_eq_zero (by rw [← HNL.out]; exact hn0)
          subst hn0
          subst hLn
          go_wp2_with (refine wpList_copy_zero rfl _ _ rfl w.heap.size q c' A' _ rfl rfl hO5 ?_)
          go_meet
          exact ⟨by simpa using hO5, KeepBut.refl _ _, hS5⟩
        · go_wp2_with (refine wpList_copy_kn rfl _ _ rfl w.heap.size q n c' A' _ L rfl rfl hO5 hlr HNL.out.symm _ hK5 (by omega) ?_; intro w6 hO6 hk6 hs6)
          go_meet
          exact ⟨hO6, hk6, hs6 w hS5 hqw⟩
      obtain ⟨hO, hkp, hS⟩ := hcut
      have hc6 := hkp.cell hc5 hb5 hbq
      have hb6 : hb0 < wc.heap.size := Nat.lt_of_lt_of_le hb5 hkp.1
      clear hc5
      go_wp2_with (go_at_call 52; (with_reducible refine (ou_reverse w.heap.size q n L _ hO HNL.out.symm hml).mono ?_); intro e w7 h7; obtain ⟨⟨v7, rfl⟩, hO7, hk7, hs7⟩ := h7)
      go_roundw
      case rel =>
        have hkp7 := hkp.trans hk7
        refine ⟨j + 1, _, by omega, by go_num, by rw [List.length_set]; exact hsl, OwnG.but hOh hkp7 (fun e => by injection e with e; exact hbq e), hs7 w hS hqw, Lib.hid (fun i x M hi h1 h2 => ?_)⟩
        by_cases e : i = j
        · subst e
          rw [List.getElem?_set_self (by omega)] at h1
          injection h1 with h1
          rw [HLJ.out] at h2
          injection h2 with h2
          subst h1 h2
          exact hO7
        · rw [List.getElem?_set_ne (fun x => e x.symm)] at h1
          obtain ⟨hk5, hx5⟩ := HR5.out i x M (by omega) h1 h2
          exact OwnG.but hk5 hkp7 hx5
      case measure => simp [intOf]; omega
    · obtain rfl : N = j := by omega
      go_wp2_with fail
      go_ret
      refine ⟨_, w.heap.size, rfl, Nat.le_refl _, ⟨hs, by rw [List.length_map, hsl]; exact HN.out, hO, fun i x M h1 h2 => ?_⟩, hS⟩
      rw [List.getElem?_map] at h2
      cases hg : LL[i]? with
      | none => rw [hg] at h2; cases h2
      | some L =>
        rw [hg] at h2
        simp only [Option.map_some, Option.some.injEq] at h2
        subst h2
        have hi : i < LL.length := by
          rcases Nat.lt_or_ge i LL.length with h | h
          · exact h
          · rw [List.getElem?_eq_none h] at hg; cases hg
        exact HK.out i x L (by rw [HN.out]; exact hi) h1 hg
end Go.Proofs.Ytdbenpncnkfliaa
