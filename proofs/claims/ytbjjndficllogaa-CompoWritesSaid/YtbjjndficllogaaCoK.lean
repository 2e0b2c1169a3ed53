/-
  Layer 8: the library's ContainsFunc at numbers and at parts, tooGreat, numbers, writeMatrix, walked.
-/
import Derived.Test.YtbjjndficllogaaCoI
namespace Go.Proofs.Ytbjjndficllogaa
open Go.RowKit Go.ChangeShapes Go.WideShapes Go.Deep
set_option linter.unusedVariables false

def IxPost {α : Type} (ok : α → Prop) (L : List α) (w : World) (e : Ending) (w' : World) : Prop := ∃ v : Int, e = .returned (.int .i64 v) ∧ ((∀ x ∈ L, ok x) → v = -1) ∧ ((¬ ∀ x ∈ L, ok x) → 0 ≤ v) ∧ (-1 ≤ v ∧ v ≤ 9223372036854775807) ∧ Since w w'
theorem ixpost_all {α : Type} {ok : α → Prop} {L : List α} {w w' : World} (h : ∀ x ∈ L, ok x) (hS : Since w w') : IxPost ok L w (.returned (.int .i64 (-1))) w' := ⟨-1, rfl, fun _ => rfl, fun k => absurd h k, by omega, hS⟩
theorem ixpost_some {α : Type} {ok : α → Prop} {L : List α} {w w' : World} {x : α} {v : Int} (hm : x ∈ L) (h : ¬ ok x) (hv : 0 ≤ v ∧ v ≤ 9223372036854775807) (hS : Since w w') : IxPost ok L w (.returned (.int .i64 v)) w' := ⟨v, rfl, fun k => absurd (k x hm) h, fun _ => hv.1, by omega, hS⟩
theorem co_outside' (v : Int) (r : Bool) (w : World) (h : outB v = r) : Calls Try.prog 58 #[.int .i64 v] w fun e w' => e = .returned (.bool r) ∧ w' = w := by subst h; exact co_outside v w
theorem out_yes {v : Int} (h : ¬ Sh v) : outB v = true := by unfold outB; rw [decide_eq_false h]; rfl
theorem out_no {v : Int} (h : Sh v) : outB v = false := by unfold outB; rw [decide_eq_true h]; rfl
theorem take_all {α : Type} {ok : α → Prop} {L : List α} {j : Nat} {x : α} (h : ∀ y ∈ L.take j, ok y) (hj : L[j]? = some x) (hx : ok x) : ∀ y ∈ L.take (j + 1), ok y := by
  have hl : j < L.length := by
    rcases Nat.lt_or_ge j L.length with h | h
    · exact h
    · rw [List.getElem?_eq_none h] at hj; cases hj
  have e : L[j] = x := by rw [List.getElem?_eq_getElem hl] at hj; exact Option.some.inj hj
  rw [List.take_succ_eq_append_getElem hl, e]
  intro y hy
  rw [List.mem_append] at hy
  rcases hy with hy | hy
  · exact h y hy
  · simp only [List.mem_cons, List.not_mem_nil, or_false] at hy; subst hy; exact hx
set_option maxRecDepth 100000 in
set_option maxHeartbeats 4000000 in
theorem co_indexI (A : Option Addr) (n c : Nat) (L : List Int) (w : World) (h : RdI w w.heap.size A L) (hL : n = L.length) (hn : n ≤ maxLen) :
    Calls Try.prog 76 #[.slice A n c, .func (.func 58) #[] #[]] w (IxPost Sh L w) := by
  have hn' : (n : Int) ≤ 9223372036854775807 := by simp only [maxLen] at hn; omega
  have HL := Lib.hid hL
  clear hL
  go_enter Try.func76, Try.ntmps76
  go_wp2
  go_loopw [8] (fun y wr => ∃ j : Nat, j ≤ n ∧ y = .int .i64 (j : Int) ∧ Hid (∀ x ∈ L.take j, Sh x) ∧ wr = w) (fun y _ => n - (intOf y).toNat)
  case atStart => exact ⟨0, by omega, rfl, Lib.hid (by simp), rfl⟩
  case round =>
    obtain ⟨j, hj, rfl, HA, rfl⟩ := hrel
    by_cases hjn : j < n
    · have hjn' : (j : Int) < n := by omega
      have hjL : j < L.length := by rw [← HL.out]; exact hjn
      obtain ⟨b, o, rfl, hb, hc⟩ := h (by omega)
      have hx : L[j]? = some L[j] := List.getElem?_eq_getElem hjL
      have hm : L[j] ∈ L := List.getElem_mem hjL
      have c0 := hc j _ hx 0 (by omega)
      rw [Nat.mul_one, Nat.add_zero] at c0
      generalize L[j] = x at *
      have c1 : wr.cell? ⟨b, o + j, none⟩ = some (.int .i64 x) := c0
      have HX := Lib.hid hx
      have HM := Lib.hid hm
      clear hc h c0 hx hm hjL
      by_cases ho : Sh x
      · have hC := fun w2 => co_outside' x false w2 (out_no ho)
        have HO := Lib.hid ho
        clear ho
        go_wp2_with (go_at_call 58; (with_reducible refine (hC _).mono ?_); rintro e w1 ⟨rfl, rfl⟩)
        go_roundw
        case rel => exact ⟨j + 1, by omega, by go_num, Lib.hid (take_all HA.out HX.out HO.out), by first | rfl | trivial⟩
        case measure => simp [intOf]; omega
      · have hC := fun w2 => co_outside' x true w2 (out_yes ho)
        have HO := Lib.hid ho
        clear ho
        go_wp2_with (go_at_call 58; (with_reducible refine (hC _).mono ?_); rintro e w1 ⟨rfl, rfl⟩)
        go_ret
        exact ixpost_some HM.out HO.out (by omega) (Since.refl _)
    · obtain rfl : j = n := by omega
      clear h
      go_wp2
      go_ret
      exact ixpost_all (by have := HA.out; rw [HL.out, List.take_length] at this; exact this) (Since.refl _)
set_option maxHeartbeats 4000000 in
theorem co_containsI (A : Option Addr) (n c : Nat) (L : List Int) (r : Bool) (w : World) (h : RdI w w.heap.size A L) (hL : n = L.length) (hn : n ≤ maxLen) (hr : decide (∀ x ∈ L, Sh x) = !r) :
    Calls Try.prog 57 #[.slice A n c, .func (.func 58) #[] #[]] w fun e w' => e = .returned (.bool r) ∧ Since w w' := by
  have hC := co_indexI A n c L w h hL hn
  clear h hL
  cases r with
  | true =>
    have hno : ¬ ∀ x ∈ L, Sh x := by simpa using hr
    clear hr
    go_enter Try.func57, Try.ntmps57
    go_wp2_with (go_at_call 76; (with_reducible refine hC.mono ?_); rintro e w2 ⟨v, rfl, _, h2, h3, hS⟩; have hv := h2 hno; clear h2)
    go_ret
    exact ⟨by first | rfl | simp, hS⟩
  | false =>
    have hyes : ∀ x ∈ L, Sh x := by simpa using hr
    have HY := Lib.hid hyes
    clear hr hyes
    go_enter Try.func57, Try.ntmps57
    go_wp2_with (go_at_call 76; (with_reducible refine hC.mono ?_); rintro e w2 ⟨v, rfl, h1, _, h3, hS⟩; have hv := h1 HY.out; subst hv; clear h1)
    go_ret
    exact ⟨by first | rfl | simp, hS⟩
def four (P : Pt8) : List Int := [P.m0, P.m1, P.m2, P.m3]
theorem rdi_four {w : World} {b : Nat} {m0 m1 m2 m3 : Int} (h0 : w.cell? ⟨b, 3, none⟩ = some (.int .i64 m0)) (h1 : w.cell? ⟨b, 4, none⟩ = some (.int .i64 m1)) (h2 : w.cell? ⟨b, 5, none⟩ = some (.int .i64 m2)) (h3 : w.cell? ⟨b, 6, none⟩ = some (.int .i64 m3)) (hb : b < w.heap.size) : RdI w w.heap.size (some ⟨b, 3, none⟩) [m0, m1, m2, m3] := fun _ => by
  refine ⟨b, 3, rfl, hb, fun j s hj i hi => ?_⟩
  obtain rfl : i = 0 := by omega
  have hj4 : j < 4 := by
    rcases Nat.lt_or_ge j 4 with h | h
    · exact h
    · rw [List.getElem?_eq_none (by simpa using h)] at hj; cases hj
  have h : j = 0 ∨ j = 1 ∨ j = 2 ∨ j = 3 := by omega
  rcases h with rfl | rfl | rfl | rfl <;> (simp at hj; subst hj; assumption)
theorem all_four (P : Pt8) : (∀ x ∈ four P, Sh x) ↔ Sh P.m0 ∧ Sh P.m1 ∧ Sh P.m2 ∧ Sh P.m3 := by unfold four; simp
set_option maxRecDepth 100000 in
set_option maxHeartbeats 8000000 in
theorem co_tooGreat (P : Pt8) (r : Bool) (w : World) (hr : decide (P8Ok P) = !r) :
    Calls Try.prog 56 #[.agg #[.int .i64 P.g, .int .i64 P.x, .int .i64 P.y, .int .i64 P.m0, .int .i64 P.m1, .int .i64 P.m2, .int .i64 P.m3]] w fun e w' => e = .returned (.bool r) ∧ Since w w' := by
  obtain ⟨g, x, y, a0, a1, a2, a3⟩ := P
  simp only
  have hrd := fun ty => rdi_four (w := w.alloc (.cells #[.int .i64 g, .int .i64 x, .int .i64 y, .int .i64 a0, .int .i64 a1, .int .i64 a2, .int .i64 a3] ty)) (b := w.heap.size) (m0 := a0) (m1 := a1) (m2 := a2) (m3 := a3) (by simp) (by simp) (by simp) (by simp) (by simp)
  have hfour := all_four ⟨g, x, y, a0, a1, a2, a3⟩
  unfold four at hfour
  simp only at hfour
  have hCI := fun (q : Bool) (hq : decide (∀ v ∈ [a0, a1, a2, a3], Sh v) = !q) ty => co_containsI (some ⟨w.heap.size, 3, none⟩) 4 4 [a0, a1, a2, a3] q _ (hrd ty) rfl (by simp [maxLen]) hq
  by_cases h1 : g < 0
  · have E : r = true := by
      have : decide (P8Ok ⟨g, x, y, a0, a1, a2, a3⟩) = false := decide_eq_false (by unfold P8Ok; simp only; omega)
      rw [this] at hr; simpa using hr.symm
    subst E
    clear hr hrd hCI hfour
    go_enter Try.func56, Try.ntmps56
    go_wp2_with fail
    go_ret
    exact ⟨by first | rfl | simp, by (repeat (first | with_reducible (exact Since.refl _) | with_reducible assumption | with_reducible (refine Since.drew ?_) | with_reducible (refine Since.drewN ?_ _) | with_reducible (refine Since.alloc ?_ _) | (with_reducible (refine Since.setCell ?_ ?_ _); rotate_left; focus (first | (simp; done) | (simp; omega) | omega)) | (with_reducible (refine Since.trans ?_ (by with_reducible assumption)))))⟩
  have z1 : decide (g < 0) = false := by simpa using h1
  by_cases h2 : 65535 < g
  · have E : r = true := by
      have : decide (P8Ok ⟨g, x, y, a0, a1, a2, a3⟩) = false := decide_eq_false (by unfold P8Ok; simp only; omega)
      rw [this] at hr; simpa using hr.symm
    subst E
    clear hr hrd hCI hfour h1
    go_enter Try.func56, Try.ntmps56
    go_wp2_with fail
    go_ret
    exact ⟨by first | rfl | simp, by (repeat (first | with_reducible (exact Since.refl _) | with_reducible assumption | with_reducible (refine Since.drew ?_) | with_reducible (refine Since.drewN ?_ _) | with_reducible (refine Since.alloc ?_ _) | (with_reducible (refine Since.setCell ?_ ?_ _); rotate_left; focus (first | (simp; done) | (simp; omega) | omega)) | (with_reducible (refine Since.trans ?_ (by with_reducible assumption)))))⟩
  have z2 : decide (65535 < g) = false := by simpa using h2
  have tk1 := True.intro
  by_cases h3 : Sh x
  · have hX := fun w2 => co_outside' x false w2 (out_no h3)
    by_cases h4 : Sh y
    · have hY := fun w2 => co_outside' y false w2 (out_no h4)
      have hq : decide (∀ v ∈ [a0, a1, a2, a3], Sh v) = !r := by
        rw [← hr]
        refine Bool.eq_iff_iff.2 ?_
        rw [decide_eq_true_iff, decide_eq_true_iff, hfour]
        unfold P8Ok
        simp only
        constructor
        · rintro ⟨a, b, c, d⟩; exact ⟨⟨by omega, by omega⟩, h3, h4, a, b, c, d⟩
        · rintro ⟨_, _, _, a, b, c, d⟩; exact ⟨a, b, c, d⟩
      have hC := Lib.hid fun ty => hCI r hq ty
      have HX := Lib.hid hX
      have HY := Lib.hid hY
      clear hr hrd hCI hfour h1 h2 h3 h4 hq hX hY
      go_enter Try.func56, Try.ntmps56
      go_wp2_with (first | (go_at_call 58; have _t := tk1; (with_reducible refine (HX.out _).mono ?_); rintro e w2 ⟨rfl, hw2⟩; have hw3 := hw2.symm; subst hw3; clear hw2 tk1; have tk2 := True.intro) | (go_at_call 58; have _t := tk2; (with_reducible refine (HY.out _).mono ?_); rintro e w2 ⟨rfl, hw2⟩; have hw3 := hw2.symm; subst hw3; clear hw2 tk2) | (go_at_call 57; (with_reducible refine (hC.out _).mono ?_); rintro e w2 ⟨rfl, hS2⟩; have hS3 : Since w w2 := (by (repeat (first | with_reducible (exact Since.refl _) | with_reducible assumption | with_reducible (refine Since.drew ?_) | with_reducible (refine Since.drewN ?_ _) | with_reducible (refine Since.alloc ?_ _) | (with_reducible (refine Since.setCell ?_ ?_ _); rotate_left; focus (first | (simp; done) | (simp; omega) | omega)) | (with_reducible (refine Since.trans ?_ (by with_reducible assumption))))))))
      go_ret
      exact ⟨by first | rfl | simp, hS3⟩
    · have hY := fun w2 => co_outside' y true w2 (out_yes h4)
      have E : r = true := by
        have : decide (P8Ok ⟨g, x, y, a0, a1, a2, a3⟩) = false := decide_eq_false (fun e => h4 e.2.2.1)
        rw [this] at hr; simpa using hr.symm
      subst E
      have HX := Lib.hid hX
      have HY := Lib.hid hY
      clear hr hrd hCI hfour h1 h2 h3 h4 hX hY
      go_enter Try.func56, Try.ntmps56
      go_wp2_with (first | (go_at_call 58; have _t := tk1; (with_reducible refine (HX.out _).mono ?_); rintro e w2 ⟨rfl, hw2⟩; have hw3 := hw2.symm; subst hw3; clear hw2 tk1; have tk2 := True.intro) | (go_at_call 58; have _t := tk2; (with_reducible refine (HY.out _).mono ?_); rintro e w2 ⟨rfl, hw2⟩; have hw3 := hw2.symm; subst hw3; clear hw2 tk2))
      go_ret
      exact ⟨by first | rfl | simp, by (repeat (first | with_reducible (exact Since.refl _) | with_reducible assumption | with_reducible (refine Since.drew ?_) | with_reducible (refine Since.drewN ?_ _) | with_reducible (refine Since.alloc ?_ _) | (with_reducible (refine Since.setCell ?_ ?_ _); rotate_left; focus (first | (simp; done) | (simp; omega) | omega)) | (with_reducible (refine Since.trans ?_ (by with_reducible assumption)))))⟩
  · have hX := fun w2 => co_outside' x true w2 (out_yes h3)
    have E : r = true := by
      have : decide (P8Ok ⟨g, x, y, a0, a1, a2, a3⟩) = false := decide_eq_false (fun e => h3 e.2.1)
      rw [this] at hr; simpa using hr.symm
    subst E
    have HX := Lib.hid hX
    clear hr hrd hCI hfour h1 h2 h3 hX
    go_enter Try.func56, Try.ntmps56
    go_wp2_with (first | (go_at_call 58; have _t := tk1; (with_reducible refine (HX.out _).mono ?_); rintro e w2 ⟨rfl, hw2⟩; have hw3 := hw2.symm; subst hw3; clear hw2 tk1))
    go_ret
    exact ⟨by first | rfl | simp, by (repeat (first | with_reducible (exact Since.refl _) | with_reducible assumption | with_reducible (refine Since.drew ?_) | with_reducible (refine Since.drewN ?_ _) | with_reducible (refine Since.alloc ?_ _) | (with_reducible (refine Since.setCell ?_ ?_ _); rotate_left; focus (first | (simp; done) | (simp; omega) | omega)) | (with_reducible (refine Since.trans ?_ (by with_reducible assumption)))))⟩
set_option maxRecDepth 100000 in
set_option maxHeartbeats 4000000 in
theorem co_indexP (A : Option Addr) (n c : Nat) (L : List Pt8) (w : World) (h : RdP8 w w.heap.size A L) (hL : n = L.length) (hn : n ≤ maxLen) :
    Calls Try.prog 75 #[.slice A n c, .func (.func 56) #[] #[]] w (IxPost P8Ok L w) := by
  have hn' : (n : Int) ≤ 9223372036854775807 := by simp only [maxLen] at hn; omega
  have HL := Lib.hid hL
  have H0 := Lib.hid h
  clear hL h
  go_enter Try.func75, Try.ntmps75
  go_wp2
  go_loopw [8] (fun y wr => ∃ j : Nat, j ≤ n ∧ y = .int .i64 (j : Int) ∧ Hid (∀ x ∈ L.take j, P8Ok x) ∧ Since w wr) (fun y _ => n - (intOf y).toNat)
  case atStart => exact ⟨0, by omega, rfl, Lib.hid (by simp), Since.refl _⟩
  case round =>
    obtain ⟨j, hj, rfl, HA, hS⟩ := hrel
    by_cases hjn : j < n
    · have hjn' : (j : Int) < n := by omega
      have hjL : j < L.length := by rw [← HL.out]; exact hjn
      obtain ⟨b, o, rfl, hb, hc⟩ := (H0.out.on hS) (by omega)
      have hx : L[j]? = some L[j] := List.getElem?_eq_getElem hjL
      have hm : L[j] ∈ L := List.getElem_mem hjL
      have c0 := hc j _ hx
      obtain ⟨P, hP⟩ : ∃ P, P = L[j] := ⟨_, rfl⟩
      rw [← hP] at c0 hx hm
      have HX := Lib.hid hx
      have HM := Lib.hid hm
      clear hc hx hm hP hjL
      obtain ⟨g, x, y, a0, a1, a2, a3⟩ := P
      have q0 : wr.cell? ⟨b, o + j * 7, none⟩ = some (.int .i64 g) := c0 0 (by omega)
      have q1 : wr.cell? ⟨b, o + j * 7 + 1, none⟩ = some (.int .i64 x) := c0 1 (by omega)
      have q2 : wr.cell? ⟨b, o + j * 7 + 2, none⟩ = some (.int .i64 y) := c0 2 (by omega)
      have q3 : wr.cell? ⟨b, o + j * 7 + 3, none⟩ = some (.int .i64 a0) := c0 3 (by omega)
      have q4 : wr.cell? ⟨b, o + j * 7 + 4, none⟩ = some (.int .i64 a1) := c0 4 (by omega)
      have q5 : wr.cell? ⟨b, o + j * 7 + 5, none⟩ = some (.int .i64 a2) := c0 5 (by omega)
      have q6 : wr.cell? ⟨b, o + j * 7 + 6, none⟩ = some (.int .i64 a3) := c0 6 (by omega)
      clear c0
      by_cases ho : P8Ok ⟨g, x, y, a0, a1, a2, a3⟩
      · have hC := fun w2 => co_tooGreat ⟨g, x, y, a0, a1, a2, a3⟩ false w2 (decide_eq_true ho)
        have HO := Lib.hid ho
        clear ho
        go_wp2_with (go_at_call 56; (with_reducible refine (hC _).mono ?_); rintro e w1 ⟨rfl, hS1⟩; have hS2 := hS.trans hS1)
        go_roundw
        case rel => exact ⟨j + 1, by omega, by go_num, Lib.hid (take_all HA.out HX.out HO.out), hS2⟩
        case measure => simp [intOf]; omega
      · have hC := fun w2 => co_tooGreat ⟨g, x, y, a0, a1, a2, a3⟩ true w2 (decide_eq_false ho)
        have HO := Lib.hid ho
        clear ho
        go_wp2_with (go_at_call 56; (with_reducible refine (hC _).mono ?_); rintro e w1 ⟨rfl, hS1⟩; have hS2 := hS.trans hS1)
        go_ret
        exact ixpost_some HM.out HO.out (by omega) hS2
    · obtain rfl : j = n := by omega
      go_wp2
      go_ret
      exact ixpost_all (by have := HA.out; rw [HL.out, List.take_length] at this; exact this) hS
set_option maxHeartbeats 4000000 in
theorem co_containsP (A : Option Addr) (n c : Nat) (L : List Pt8) (r : Bool) (w : World) (h : RdP8 w w.heap.size A L) (hL : n = L.length) (hn : n ≤ maxLen) (hr : decide (∀ x ∈ L, P8Ok x) = !r) :
    Calls Try.prog 55 #[.slice A n c, .func (.func 56) #[] #[]] w fun e w' => e = .returned (.bool r) ∧ Since w w' := by
  have hC := co_indexP A n c L w h hL hn
  clear h hL
  cases r with
  | true =>
    have hno : ¬ ∀ x ∈ L, P8Ok x := by simpa using hr
    clear hr
    go_enter Try.func55, Try.ntmps55
    go_wp2_with (go_at_call 75; (with_reducible refine hC.mono ?_); rintro e w2 ⟨v, rfl, _, h2, h3, hS⟩; have hv := h2 hno; clear h2)
    go_ret
    exact ⟨by first | rfl | simp, hS⟩
  | false =>
    have hyes : ∀ x ∈ L, P8Ok x := by simpa using hr
    have HY := Lib.hid hyes
    clear hr hyes
    go_enter Try.func55, Try.ntmps55
    go_wp2_with (go_at_call 75; (with_reducible refine hC.mono ?_); rintro e w2 ⟨v, rfl, h1, _, h3, hS⟩; have hv := h1 HY.out; subst hv; clear h1)
    go_ret
    exact ⟨by first | rfl | simp, hS⟩
end Go.Proofs.Ytbjjndficllogaa
