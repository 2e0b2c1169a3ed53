/-
  Layer 5: 'PutMaxp', walked, program and reference.
-/
import Derived.Test.YtefalfdillnkfaaDoorHdF
namespace Go.Proofs.YtefalfdillnkfaaDoor
open Go.RowKit
set_option linter.unusedVariables false

def seven (a b c d e g i : Int) (j : Nat) : Int := if j = 0 then a else if j = 1 then b else if j = 2 then c else if j = 3 then d else if j = 4 then e else if j = 5 then g else i
def mpP (j : Nat) : Nat := if j = 0 then 4 else if j = 1 then 6 else if j = 2 then 8 else if j = 3 then 10 else if j = 4 then 12 else if j = 5 then 28 else 30
def mpF (f v : Nat → Int) : Nat → Nat → Int
  | 0 => f
  | k + 1 => lay2 (mpF f v k) (mpP k) (v k)
def wordB (x : Int) : Bool := decide (0 ≤ x) && decide (x ≤ 65535)
def allW (v : Nat → Int) : Nat → Bool
  | 0 => true
  | k + 1 => allW v k && wordB (v k)
theorem allW_no {v : Nat → Int} {j : Nat} (h : wordB (v j) = false) : ∀ {k : Nat}, j < k → allW v k = false
  | k + 1, hj => by
    unfold allW
    rcases Nat.lt_or_ge j k with h' | h'
    · rw [allW_no h h']; rfl
    · obtain rfl : j = k := by omega
      rw [h]; simp
theorem allW_next {v : Nat → Int} {k : Nat} (h : allW v k = true) (h' : 0 ≤ v k ∧ v k ≤ 65535) : allW v (k + 1) = true := by
  unfold allW wordB; rw [h, decide_eq_true h'.1, decide_eq_true h'.2]; rfl
theorem word_no {x : Int} (h : x < 0 ∨ 65535 < x) : wordB x = false := by
  unfold wordB
  rcases h with h | h
  · rw [decide_eq_false (by omega), Bool.false_and]
  · rw [decide_eq_false (p := x ≤ 65535) (by omega), Bool.and_false]
def mpE (n : Nat) (v : Nat → Int) : Int := if n < 32 then 3 else if allW v 7 then 0 else 6
def mpN (n : Nat) (v : Nat → Int) : Nat := if mpE n v = 0 then n else 0
def MpPost (f : Nat → Int) (n : Nat) (v : Nat → Int) (w : World) (e : Ending) (w' : World) : Prop := ∃ A' c', e = .returned (.tuple #[.slice A' (mpN n v) c', .int .i64 (mpE n v)]) ∧ mpN n v ≤ c' ∧ Nw w' w.heap.size A' (mpN n v) (U8 (mpF f v 7)) ∧ Since w w'
theorem mp_bad {f v : Nat → Int} {n : Nat} {E : Int} {w w' : World} (hE : mpE n v = E) (h0 : E ≠ 0) (hS : Since w w') : MpPost f n v w (.returned (.tuple #[.slice none 0 0, .int .i64 E])) w' := by
  subst hE
  have e : mpN n v = 0 := by unfold mpN; rw [if_neg h0]
  unfold MpPost
  rw [e]
  exact ⟨none, 0, rfl, Nat.le_refl _, Nw.zero, hS⟩
theorem mp_good {f v : Nat → Int} {n c' : Nat} {A' : Option Addr} {w w' : World} (hE : mpE n v = 0) (hc : n ≤ c') (hN : Nw w' w.heap.size A' n (U8 (mpF f v 7))) (hS : Since w w') : MpPost f n v w (.returned (.tuple #[.slice A' n c', .int .i64 0])) w' := by
  have e : mpN n v = n := by unfold mpN; rw [if_pos hE]
  unfold MpPost
  rw [e, hE]
  exact ⟨A', c', rfl, hc, hN, hS⟩
theorem sbox_at (w : World) (b : Nat) (hb : b = w.heap.size) (v0 v1 v2 v3 v4 v5 v6 : Value) (t : TypeId) (j : Nat) (v : Value) (h : #[v0, v1, v2, v3, v4, v5, v6][j]? = some v) : (w.alloc (.cells #[v0, v1, v2, v3, v4, v5, v6] t)).cell? ⟨b, j, none⟩ = some v := by subst hb; rw [World.cell?_alloc_new]; exact h
set_option maxRecDepth 100000 in
set_option maxHeartbeats 8000000 in
theorem hd_putmaxp (A : Option Addr) (n q : Nat) (f : Nat → Int) (a b c d e g i : Int) (w : World) (hT : Tabs w) (h : Rd w w.heap.size A n (U8 f)) (ha : In64 a) (hb : In64 b) (hc : In64 c) (hd : In64 d) (he : In64 e) (hg : In64 g) (hi : In64 i) (hn : n ≤ 140737488355328) :
    Calls Tryd.prog 19 #[.slice A n q, .agg #[.int .i64 a, .int .i64 b, .int .i64 c, .int .i64 d, .int .i64 e, .int .i64 g, .int .i64 i]] w (MpPost f n (seven a b c d e g i) w) := by
  have hn' : (n : Int) ≤ 140737488355328 := by omega
  by_cases h1 : n < 32
  · have E := Lib.hid (show mpE n (seven a b c d e g i) = 3 by unfold mpE; rw [if_pos h1])
    have h1' : (n : Int) < 32 := by omega
    clear h
    go_enter Tryd.func19, Tryd.ntmps19
    go_wp2
    go_ret2
    exact mp_bad E.out (by decide) (by (repeat (first | with_reducible (exact Since.refl _) | with_reducible assumption | with_reducible (refine Since.drew ?_) | with_reducible (refine Since.drewN ?_ _) | with_reducible (refine Since.alloc ?_ _) | (with_reducible (refine Since.setCell ?_ ?_ _); rotate_left; focus (first | (simp; done) | (simp; omega) | omega)) | (with_reducible (refine Since.trans ?_ (by with_reducible assumption))))))
  have h1' : (32 : Int) ≤ n := by omega
  have hE : mpE n (seven a b c d e g i) = if allW (seven a b c d e g i) 7 then 0 else 6 := by unfold mpE; rw [if_neg h1]
  obtain ⟨t0, ta, t1, t2, t3, t4, t5, t6, t7⟩ := hT
  have t8 : 1 < w.heap.size := by omega
  have t9 : 0 < w.heap.size := by omega
  clear ta
  have m0 := mx0; have m1 := mx1; have m2 := mx2; have m3 := mx3; have m4 := mx4; have m5 := mx5; have m6 := mx6
  have HE := Lib.hid hE; have HH := Lib.hid h
  clear hE h
  go_enter Tryd.func19, Tryd.ntmps19
  go_wp2
  refine wp_named fun W1 hW1 => ?_
  have hS1 : Since w W1 := by subst hW1; (repeat (first | with_reducible (exact Since.refl _) | with_reducible assumption | with_reducible (refine Since.drew ?_) | with_reducible (refine Since.drewN ?_ _) | with_reducible (refine Since.alloc ?_ _) | (with_reducible (refine Since.setCell ?_ ?_ _); rotate_left; focus (first | (simp; done) | (simp; omega) | omega)) | (with_reducible (refine Since.trans ?_ (by with_reducible assumption)))))
  have hlt : w.heap.size + 1 < W1.heap.size := by subst hW1; simp
  have a0 : W1.cell? ⟨w.heap.size + 1, 0, none⟩ = some (.int .i64 a) := by subst hW1; exact sbox_at _ _ (by simp) _ _ _ _ _ _ _ _ 0 _ rfl
  have a1 : W1.cell? ⟨w.heap.size + 1, 1, none⟩ = some (.int .i64 b) := by subst hW1; exact sbox_at _ _ (by simp) _ _ _ _ _ _ _ _ 1 _ rfl
  have a2 : W1.cell? ⟨w.heap.size + 1, 2, none⟩ = some (.int .i64 c) := by subst hW1; exact sbox_at _ _ (by simp) _ _ _ _ _ _ _ _ 2 _ rfl
  have a3 : W1.cell? ⟨w.heap.size + 1, 3, none⟩ = some (.int .i64 d) := by subst hW1; exact sbox_at _ _ (by simp) _ _ _ _ _ _ _ _ 3 _ rfl
  have a4 : W1.cell? ⟨w.heap.size + 1, 4, none⟩ = some (.int .i64 e) := by subst hW1; exact sbox_at _ _ (by simp) _ _ _ _ _ _ _ _ 4 _ rfl
  have a5 : W1.cell? ⟨w.heap.size + 1, 5, none⟩ = some (.int .i64 g) := by subst hW1; exact sbox_at _ _ (by simp) _ _ _ _ _ _ _ _ 5 _ rfl
  have a6 : W1.cell? ⟨w.heap.size + 1, 6, none⟩ = some (.int .i64 i) := by subst hW1; exact sbox_at _ _ (by simp) _ _ _ _ _ _ _ _ 6 _ rfl
  clear hW1
  go_loopw [7, 30] (fun v y wr => ∃ (k : Nat) (z : Int) (A' : Option Addr) (c' : Nat), k ≤ 7 ∧ z = k ∧ y = .int .i64 z ∧ v = .slice A' n c' ∧ Since W1 wr ∧ Rd wr wr.heap.size A' n (U8 (mpF f (seven a b c d e g i) k)) ∧ (0 < k → n ≤ c' ∧ Nw wr w.heap.size A' n (U8 (mpF f (seven a b c d e g i) k))) ∧ allW (seven a b c d e g i) k = true) (fun _ y _ => (7 - intOf y).toNat)
  case atStart => exact ⟨0, 0, A, q, by omega, rfl, rfl, rfl, Since.refl _, HH.out.on hS1, fun h => absurd h (by decide), rfl⟩
  case round =>
    obtain ⟨k, z, A', c', hk, hz, rfl, rfl, hSr, hR, hN, hall⟩ := hrel
    have HR := Lib.hid hR; have HN := Lib.hid hN; have HA := Lib.hid hall
    clear hR hN hall
    have hTr := hS1.trans hSr
    have hcase : k = 0 ∨ k = 1 ∨ k = 2 ∨ k = 3 ∨ k = 4 ∨ k = 5 ∨ k = 6 ∨ k = 7 := by omega
    rcases hcase with rfl | rfl | rfl | rfl | rfl | rfl | rfl | rfl
    · obtain rfl : z = 0 := by omega
      clear hz hk
      have c0 := (hSr.1 _ 0 hlt).trans a0
      by_cases hbd : a < 0 ∨ 65535 < a
      · have E2 := Lib.hid (show mpE n (seven a b c d e g i) = 6 by rw [HE.out, allW_no (j := 0) (word_no hbd) (by omega)]; rfl)
        rcases hbd with hbd | hbd
        · go_wp2
          go_ret2
          exact mp_bad E2.out (by decide) hTr
        · have hb' : 0 ≤ a := by omega
          go_wp2
          go_ret2
          exact mp_bad E2.out (by decide) hTr
      · have hb1 : 0 ≤ a := by omega
        have hb2 : a ≤ 65535 := by omega
        have hP := hd_put4 A' n c' _ a wr w hTr ha HR.out (by omega) hn
        have HP := Lib.hid hP
        clear hbd hP
        go_wp2_with (go_at_call 27; (with_reducible refine HP.out.mono ?_); rintro e w2 ⟨A2, c2, rfl, hc2, hN2, hT2, hS2⟩)
        exact ⟨⟨1, 1, A2, c2, by omega, by simp, by simp, rfl, hSr.trans hS2, hN2.rd, fun _ => ⟨hc2, hN2⟩, allW_next HA.out ⟨hb1, hb2⟩⟩, by simp [intOf]⟩
    · obtain rfl : z = 1 := by omega
      clear hz hk
      have c0 := (hSr.1 _ 1 hlt).trans a1
      by_cases hbd : b < 0 ∨ 65535 < b
      · have E2 := Lib.hid (show mpE n (seven a b c d e g i) = 6 by rw [HE.out, allW_no (j := 1) (word_no hbd) (by omega)]; rfl)
        rcases hbd with hbd | hbd
        · go_wp2
          go_ret2
          exact mp_bad E2.out (by decide) hTr
        · have hb' : 0 ≤ b := by omega
          go_wp2
          go_ret2
          exact mp_bad E2.out (by decide) hTr
      · have hb1 : 0 ≤ b := by omega
        have hb2 : b ≤ 65535 := by omega
        have hP := hd_put6 A' n c' _ b wr w hTr hb HR.out (by omega) hn
        have HP := Lib.hid hP
        clear hbd hP
        go_wp2_with (go_at_call 27; (with_reducible refine HP.out.mono ?_); rintro e w2 ⟨A2, c2, rfl, hc2, hN2, hT2, hS2⟩)
        exact ⟨⟨2, 2, A2, c2, by omega, by simp, by simp, rfl, hSr.trans hS2, hN2.rd, fun _ => ⟨hc2, hN2⟩, allW_next HA.out ⟨hb1, hb2⟩⟩, by simp [intOf]⟩
    · obtain rfl : z = 2 := by omega
      clear hz hk
      have c0 := (hSr.1 _ 2 hlt).trans a2
      by_cases hbd : c < 0 ∨ 65535 < c
      · have E2 := Lib.hid (show mpE n (seven a b c d e g i) = 6 by rw [HE.out, allW_no (j := 2) (word_no hbd) (by omega)]; rfl)
        rcases hbd with hbd | hbd
        · go_wp2
          go_ret2
          exact mp_bad E2.out (by decide) hTr
        · have hb' : 0 ≤ c := by omega
          go_wp2
          go_ret2
          exact mp_bad E2.out (by decide) hTr
      · have hb1 : 0 ≤ c := by omega
        have hb2 : c ≤ 65535 := by omega
        have hP := hd_put8 A' n c' _ c wr w hTr hc HR.out (by omega) hn
        have HP := Lib.hid hP
        clear hbd hP
        go_wp2_with (go_at_call 27; (with_reducible refine HP.out.mono ?_); rintro e w2 ⟨A2, c2, rfl, hc2, hN2, hT2, hS2⟩)
        exact ⟨⟨3, 3, A2, c2, by omega, by simp, by simp, rfl, hSr.trans hS2, hN2.rd, fun _ => ⟨hc2, hN2⟩, allW_next HA.out ⟨hb1, hb2⟩⟩, by simp [intOf]⟩
    · obtain rfl : z = 3 := by omega
      clear hz hk
      have c0 := (hSr.1 _ 3 hlt).trans a3
      by_cases hbd : d < 0 ∨ 65535 < d
      · have E2 := Lib.hid (show mpE n (seven a b c d e g i) = 6 by rw [HE.out, allW_no (j := 3) (word_no hbd) (by omega)]; rfl)
        rcases hbd with hbd | hbd
        · go_wp2
          go_ret2
          exact mp_bad E2.out (by decide) hTr
        · have hb' : 0 ≤ d := by omega
          go_wp2
          go_ret2
          exact mp_bad E2.out (by decide) hTr
      · have hb1 : 0 ≤ d := by omega
        have hb2 : d ≤ 65535 := by omega
        have hP := hd_put10 A' n c' _ d wr w hTr hd HR.out (by omega) hn
        have HP := Lib.hid hP
        clear hbd hP
        go_wp2_with (go_at_call 27; (with_reducible refine HP.out.mono ?_); rintro e w2 ⟨A2, c2, rfl, hc2, hN2, hT2, hS2⟩)
        exact ⟨⟨4, 4, A2, c2, by omega, by simp, by simp, rfl, hSr.trans hS2, hN2.rd, fun _ => ⟨hc2, hN2⟩, allW_next HA.out ⟨hb1, hb2⟩⟩, by simp [intOf]⟩
    · obtain rfl : z = 4 := by omega
      clear hz hk
      have c0 := (hSr.1 _ 4 hlt).trans a4
      by_cases hbd : e < 0 ∨ 65535 < e
      · have E2 := Lib.hid (show mpE n (seven a b c d e g i) = 6 by rw [HE.out, allW_no (j := 4) (word_no hbd) (by omega)]; rfl)
        rcases hbd with hbd | hbd
        · go_wp2
          go_ret2
          exact mp_bad E2.out (by decide) hTr
        · have hb' : 0 ≤ e := by omega
          go_wp2
          go_ret2
          exact mp_bad E2.out (by decide) hTr
      · have hb1 : 0 ≤ e := by omega
        have hb2 : e ≤ 65535 := by omega
        have hP := hd_put12 A' n c' _ e wr w hTr he HR.out (by omega) hn
        have HP := Lib.hid hP
        clear hbd hP
        go_wp2_with (go_at_call 27; (with_reducible refine HP.out.mono ?_); rintro e w2 ⟨A2, c2, rfl, hc2, hN2, hT2, hS2⟩)
        exact ⟨⟨5, 5, A2, c2, by omega, by simp, by simp, rfl, hSr.trans hS2, hN2.rd, fun _ => ⟨hc2, hN2⟩, allW_next HA.out ⟨hb1, hb2⟩⟩, by simp [intOf]⟩
    · obtain rfl : z = 5 := by omega
      clear hz hk
      have c0 := (hSr.1 _ 5 hlt).trans a5
      by_cases hbd : g < 0 ∨ 65535 < g
      · have E2 := Lib.hid (show mpE n (seven a b c d e g i) = 6 by rw [HE.out, allW_no (j := 5) (word_no hbd) (by omega)]; rfl)
        rcases hbd with hbd | hbd
        · go_wp2
          go_ret2
          exact mp_bad E2.out (by decide) hTr
        · have hb' : 0 ≤ g := by omega
          go_wp2
          go_ret2
          exact mp_bad E2.out (by decide) hTr
      · have hb1 : 0 ≤ g := by omega
        have hb2 : g ≤ 65535 := by omega
        have hP := hd_put28 A' n c' _ g wr w hTr hg HR.out (by omega) hn
        have HP := Lib.hid hP
        clear hbd hP
        go_wp2_with (go_at_call 27; (with_reducible refine HP.out.mono ?_); rintro e w2 ⟨A2, c2, rfl, hc2, hN2, hT2, hS2⟩)
        exact ⟨⟨6, 6, A2, c2, by omega, by simp, by simp, rfl, hSr.trans hS2, hN2.rd, fun _ => ⟨hc2, hN2⟩, allW_next HA.out ⟨hb1, hb2⟩⟩, by simp [intOf]⟩
    · obtain rfl : z = 6 := by omega
      clear hz hk
      have c0 := (hSr.1 _ 6 hlt).trans a6
      by_cases hbd : i < 0 ∨ 65535 < i
      · have E2 := Lib.hid (show mpE n (seven a b c d e g i) = 6 by rw [HE.out, allW_no (j := 6) (word_no hbd) (by omega)]; rfl)
        rcases hbd with hbd | hbd
        · go_wp2
          go_ret2
          exact mp_bad E2.out (by decide) hTr
        · have hb' : 0 ≤ i := by omega
          go_wp2
          go_ret2
          exact mp_bad E2.out (by decide) hTr
      · have hb1 : 0 ≤ i := by omega
        have hb2 : i ≤ 65535 := by omega
        have hP := hd_put30 A' n c' _ i wr w hTr hi HR.out (by omega) hn
        have HP := Lib.hid hP
        clear hbd hP
        go_wp2_with (go_at_call 27; (with_reducible refine HP.out.mono ?_); rintro e w2 ⟨A2, c2, rfl, hc2, hN2, hT2, hS2⟩)
        exact ⟨⟨7, 7, A2, c2, by omega, by simp, by simp, rfl, hSr.trans hS2, hN2.rd, fun _ => ⟨hc2, hN2⟩, allW_next HA.out ⟨hb1, hb2⟩⟩, by simp [intOf]⟩
    · obtain rfl : z = 7 := by omega
      clear hz hk
      have E2 := Lib.hid (show mpE n (seven a b c d e g i) = 0 by rw [HE.out, HA.out]; rfl)
      go_wp2
      go_ret2
      exact mp_good E2.out (HN.out (by decide)).1 (HN.out (by decide)).2 hTr
end Go.Proofs.YtefalfdillnkfaaDoor
