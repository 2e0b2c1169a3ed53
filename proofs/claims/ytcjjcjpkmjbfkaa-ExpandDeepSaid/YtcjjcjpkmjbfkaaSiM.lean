/-
  Layer 7: divide, walked: points cut into contours.
-/
import Derived.Test.YtcjjcjpkmjbfkaaMhC
namespace Go.Proofs.Ytcjjcjpkmjbfkaa
open Go.RowKit Go.ChangeShapes Go.WideShapes Go.Deep
set_option linter.unusedVariables false
set_option linter.unusedSimpArgs false

/-- The first point of contour j. -/
def st7 (e : Nat → Int) (j : Nat) : Int := if j = 0 then 0 else e (j - 1) + 1
/-- Contour j of points. -/
def seg7 (e : Nat → Int) (K : List Kt) (j : Nat) : List Kt := (K.take (e j + 1).toNat).drop (st7 e j).toNat
theorem cutE7_seg (K : List Kt) : ∀ (m a : Nat) (e : Nat → Int), (cutE7 (st7 e a).toNat ((List.range' a m).map e) K) = (List.range' a m).map (seg7 e K) := by
  intro m
  induction m with
  | zero => intro a e; rfl
  | succ m ih =>
    intro a e
    rw [List.range'_succ, List.map_cons, List.map_cons]
    unfold cutE7
    have h := ih (a + 1) e
    have es : st7 e (a + 1) = e a + 1 := by unfold st7; rw [if_neg (by omega), Nat.add_sub_cancel]
    rw [es] at h
    rw [h]
    rfl
theorem cutE7_all2 (K : List Kt) (m : Nat) (e : Nat → Int) : cutE7 0 ((List.range m).map e) K = (List.range m).map (seg7 e K) := by
  have h := cutE7_seg K m 0 e
  have e0 : (st7 e 0).toNat = 0 := by unfold st7; rw [if_pos rfl]; rfl
  rw [e0] at h
  rw [List.range_eq_range']
  exact h
theorem seg7_len {e : Nat → Int} {K : List Kt} {j : Nat} (h0 : 0 ≤ st7 e j) (h1 : st7 e j ≤ e j) (h2 : e j + 1 ≤ (K.length : Int)) : ((seg7 e K j).length : Int) = e j + 1 - st7 e j := by
  unfold seg7
  rw [List.length_drop, List.length_take]
  omega
def DivPost (e : Nat → Int) (N : Nat) (K : List Kt) (w : World) (en : Ending) (w' : World) : Prop := ∃ v, en = .returned v ∧ OwnO w' w.heap.size v ((List.range N).map (seg7 e K)) ∧ Since w w'
set_option maxRecDepth 1000000 in
set_option maxHeartbeats 32000000 in
theorem si_divide (A : Option Addr) (n c : Nat) (K : List Kt) (B : Option Addr) (N d : Nat) (e : Nat → Int) (w : World) (hK : RdKl w w.heap.size A K) (hn : n = K.length) (hnc : n ≤ c) (hE : Rd w w.heap.size B N (I64 e)) (hN : N ≤ 32767) (hK4 : K.length ≤ 4096)
    (h1 : ∀ j, j < N → 0 ≤ st7 e j ∧ st7 e j ≤ e j ∧ e j + 1 ≤ (K.length : Int)) :
    Calls Try.prog 58 #[.slice A n c, .slice B N d] w (DivPost e N K w) := by
  have HN := Lib.hid hn
  have H1 := Lib.hid h1
  have HK4 := Lib.hid hK4
  have hn4 : (n : Int) ≤ 4096 := by omega
  have hNI : (N : Int) ≤ 32767 := by omega
  clear h1 hK4 hn
  go_enter Try.func58, Try.ntmps58
  go_wp2_with (at_make; refine wpList_make_g rfl _ _ 28 64 rfl (by omega) hdL_len 24 ⟨none, 0, 0⟩ Try.underlying28 infoCt2 N rfl rfl (by omega) (by simp only [maxLen]; omega) w.heap.size (Nat.le_refl _) ?_; intro w1 hO1 hg1)
  have hS1 : Since w w1 := since_grown (Since.refl w) hg1 (fun q hq => by cases hq)
  have hb1 := (hO1.lt (g := w.heap.size) rfl).2
  obtain ⟨hb0, hbe⟩ : ∃ hb0, hb0 = w.heap.size := ⟨_, rfl⟩
  have hbw : w.heap.size ≤ hb0 := by omega
  rw [← hbe] at hb1 ⊢
  have hO1 : OwnG 64 1 hdL w1 w.heap.size (.slice (some ⟨hb0, 0, none⟩) N N) (List.replicate N ⟨none, 0, 0⟩) := by rw [hbe]; exact hO1
  clear hbe hg1
  go_loopw [6, 14] (fun z y wr => ∃ (j : Nat) (hs : List Hd), j ≤ N ∧ y = .int .i64 (j : Int) ∧ z = .int .i64 (st7 e j) ∧ hs.length = N ∧ OwnG 64 1 hdL wr w.heap.size (.slice (some ⟨hb0, 0, none⟩) N N) hs ∧ Since w wr ∧ Hid (∀ (i : Nat) x, i < j → hs[i]? = some x → OwnK wr w.heap.size (.slice x.A x.n x.c) (seg7 e K i))) (fun _ y _ => N - (intOf y).toNat)
  case atStart => exact ⟨0, _, by omega, rfl, rfl, by simp, hO1, hS1, Lib.hid (fun i x hi => absurd hi (by omega))⟩
  case round =>
    obtain ⟨j, hs, hj, rfl, rfl, hsl, hO, hS, HK⟩ := hrel
    clear hO1 hS1 hb1
    by_cases hjn : j < N
    · have hjn' : (j : Int) < N := by omega
      obtain ⟨k1, k2, k3⟩ := H1.out j hjn
      have hsg := seg7_len k1 k2 k3
      have hst : st7 e (j + 1) = e j + 1 := by unfold st7; rw [if_neg (by omega), Nat.add_sub_cancel]
      have HSG := Lib.hid (show seg7 e K j = (K.take (e j + 1).toNat).drop (st7 e j).toNat from rfl)
      have HST := Lib.hid hst
      rw [← HN.out] at k3
      obtain ⟨b, o, rfl, hb, hcell⟩ := hE (by omega)
      have c1 := (hS.1 _ _ hb).trans (hcell j hjn)
      simp only [I64, IntRow] at c1
      have hbw1 := hS.2.2.1 _ hb
      have hwz := hS.below.size
      have hbz := (hO.lt (g := hb0) rfl).2
      have hKR := hK.on hS
      clear hcell hst
      generalize hsj : seg7 e K j = SG at *
      generalize st7 e j = s at *
      generalize e j = x at *
      have hOr : wr.ownsRow w.heap.size 64 1 (.slice (some ⟨hb0, 0, none⟩) N N) N (cellsG hdL hs) := by
        have hx := hO
        unfold OwnG at hx
        rw [hsl] at hx
        exact hx
      have hfz := World.ownsRow.frozenAt hOr j
      clear hOr
      have hcj : wr.cell? ⟨hb0, j, none⟩ = some (.slice (hs.getD j ⟨none, 0, 0⟩).A (hs.getD j ⟨none, 0, 0⟩).n (hs.getD j ⟨none, 0, 0⟩).c) := by
        have hx : hs[j]? = some hs[j] := List.getElem?_eq_getElem (by omega)
        obtain ⟨A2, c2, e, _, hr2⟩ := hO.rd (by omega) hdL_len
        injection e with e1 e2 e3
        subst e1
        obtain ⟨b3, o3, e4, _, hc3⟩ := hr2 (by omega)
        injection e4 with e4
        injection e4 with e5 e6
        subst e5 e6
        have := hc3 j _ hx 0 (by omega)
        rw [Nat.zero_add, Nat.mul_one, Nat.add_zero] at this
        have hgd : hs.getD j ⟨none, 0, 0⟩ = hs[j] := by rw [List.getD_eq_getElem?_getD, hx]; rfl
        rw [this, hgd]
        rfl
      generalize hs.getD j ⟨none, 0, 0⟩ = h0 at *
      obtain ⟨sn, rfl⟩ := Int.eq_ofNat_of_zero_le k1
      obtain ⟨xn, rfl⟩ := Int.eq_ofNat_of_zero_le (show 0 ≤ x by omega)
      have m1 : IntKind.i64.wrap ((xn : Int) + 1) = ((xn + 1 : Nat) : Int) := by rw [IntKind.wrap_i64]; omega
      have u1 : (sn : Int) ≤ ((xn + 1 : Nat) : Int) := by omega
      have u2 : ((xn + 1 : Nat) : Int) ≤ (c : Int) := by omega
      have u3 : ¬ c = sn := by omega
      have hKA : ∃ kb ko, A = some ⟨kb, ko, none⟩ ∧ RdKl wr wr.heap.size (some ⟨kb, ko + sn * 3, none⟩) SG := by
        obtain ⟨kb, ko, rfl, _, _⟩ := hKR (by have := HN.out; omega)
        refine ⟨kb, ko, rfl, ?_⟩
        rw [HSG.out]
        exact (hKR.take _).drop _
      obtain ⟨kb, ko, rfl, hKS⟩ := hKA
      have hsl2 : SG.length = xn + 1 - sn := by omega
      go_wp2_with (at_builtin; refine wpList_append_t rfl _ _ 64 63 62 62 rfl (by omega) knL_len knL_one 24 Try.underlying64 Try.underlying63 infoKn w.heap.size _ [] rfl (OwnG.empty _ wr w.heap.size _ rfl hwz) _ (some ⟨kb, ko + sn * 3, none⟩) _ SG (by rw [hsl2]; rfl) (hKS.on ((Since.refl wr).alloc _)) ?_ ?_ ?_ ?_; (focus (rw [List.length_nil]; omega)); (focus (rw [List.length_nil]; simp only [maxLen]; omega)); (focus (simp; omega)); intro v7 w7 hO7 hg7 hb7; have hS7 : Since wr w7 := (since_grown ((Since.refl wr).alloc _) hg7 (fun q hq => Nat.le_of_eq (Option.some.inj hq))); rw [List.nil_append] at hO7; obtain ⟨A7, c7, rfl, hc7, hr7⟩ := hO7.rd (by omega) knL_len; rw [hsl2] at hO7 hc7 ⊢; have hOh := hO.since hS7; have hc4 := (hS7.1 _ _ hbz).trans hcj; have hf4 := (hS7.2.1 hb0 j hbz).trans hfz; have hz4 := hS7.2.2.1 _ hbz; have hHK : Hid (∀ (i : Nat) x, i < j → hs[i]? = some x → OwnK w7 w.heap.size (.slice x.A x.n x.c) (seg7 e K i)) := (Lib.hid (fun i x hi hx => (HK.out i x hi hx).since hS7)); have hSS := hS.trans hS7; clear hr7 hg7 hb7 hc7)
      have hne : 64 ≠ 62 := by decide
      go_roundw
      case rel =>
        refine ⟨j + 1, hs.set j ⟨A7, xn + 1 - sn, c7⟩, by omega, by first | rfl | go_num, by rw [HST.out], by rw [List.length_set]; exact hsl, OwnH.put hOh j A7 (xn + 1 - sn) c7 (by omega), hSS.setCell hbw _, Lib.hid (fun i x hi hx => ?_)⟩
        have hkb : KeepBut hb0 w7 (w7.setCell ⟨hb0, j, none⟩ (.slice A7 (xn + 1 - sn) c7)) := (KeepBut.refl hb0 w7).set j _
        by_cases hij : i = j
        · subst hij
          rw [List.getElem?_set_self (by omega)] at hx
          injection hx with hx
          subst hx
          rw [hsj]
          exact OwnG.but hO7 hkb (fun e => own_apart hOh hO7 hne rfl e)
        · rw [List.getElem?_set_ne (fun h => hij h.symm)] at hx
          have hk := hHK.out i x (by omega) hx
          exact OwnG.but hk hkb (fun e => own_apart hOh hk hne rfl e)
      case measure => simp [intOf]; omega
    · obtain rfl : j = N := by omega
      have HO := Lib.hid hO
      clear hO hK
      go_wp2_with fail
      go_ret
      exact ⟨_, rfl, ⟨hs, by simp [hsl], HO.out, fun i x L h1 h2 => by
        have hi : i < j := by
          rcases Nat.lt_or_ge i hs.length with h | h
          · omega
          · rw [List.getElem?_eq_none h] at h1; cases h1
        rw [List.getElem?_map, List.getElem?_range hi] at h2
        simp only [Option.map_some, Option.some.injEq] at h2
        subst h2
        exact HK.out i x hi h1⟩, hS⟩
end Go.Proofs.Ytcjjcjpkmjbfkaa
