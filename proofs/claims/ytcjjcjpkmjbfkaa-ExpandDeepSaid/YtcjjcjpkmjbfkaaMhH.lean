/-
  Texts of this seat, put together: each with its own head.
-/
import Derived.Test.YtcjjcjpkmjbfkaaSjD
import Derived.Test.YtcjjcjpkmjbfkaaSiN
import Derived.Test.YtcjjcjpkmjbfkaaSiO

/-
  Layer 7: the reference's steps: one number of two bytes, read or not.
-/
namespace Go.Proofs.Ytcjjcjpkmjbfkaa
open Go.RowKit Go.ChangeShapes Go.WideShapes Go.Deep
set_option linter.unusedVariables false
set_option linter.unusedSimpArgs false

theorem rf_s2_in (q B : Nat) (A : Option Addr) (n c : Nat) (f : Nat → Int) (p : Nat) (w : World) (hR : Row w q 3 (RdrF A n c (p : Int) 0)) (h : Rd w B A n (U8 f)) (hB : B ≤ q) (hf : ∀ j, j < n → 0 ≤ f j ∧ f j ≤ 255) (hp : p + 2 ≤ n) (hn : n ≤ 140737488355328) :
    Calls Try.prog 45 #[.pointer (some ⟨q, 0, none⟩)] w fun e w' => e = .returned (.int .i64 (sgn 2 (numAt f p 2))) ∧ (-32768 ≤ sgn 2 (numAt f p 2) ∧ sgn 2 (numAt f p 2) ≤ 32767) ∧ Row w' q 3 (RdrF A n c ((p + 2 : Nat) : Int) 0) ∧ Nigh q w w' := by
  refine (rf_s7 q A n c f p 3 (p : Int) 0 w hR (h.more (by have := hR.2.2; omega)) hf (by omega) hn (.inr ⟨rfl, rfl, rfl, by omega⟩)).mono ?_
  rintro e w' ⟨v, p', E, rfl, hR', hN, hst, hv, hvb, hv0⟩
  rcases hst with ⟨rfl, _, h3⟩ | ⟨rfl, _, rfl, _⟩
  · have := h3 rfl; omega
  · have e := hv rfl
    subst e
    exact ⟨rfl, hvb, hR', hN⟩
theorem rf_s2_out (q B : Nat) (A : Option Addr) (n c : Nat) (f : Nat → Int) (p : Nat) (w : World) (hR : Row w q 3 (RdrF A n c (p : Int) 0)) (h : Rd w B A n (U8 f)) (hB : B ≤ q) (hf : ∀ j, j < n → 0 ≤ f j ∧ f j ≤ 255) (hp : p ≤ n) (hp1 : n < p + 2) (hn : n ≤ 140737488355328) :
    Calls Try.prog 45 #[.pointer (some ⟨q, 0, none⟩)] w fun e w' => e = .returned (.int .i64 0) ∧ (∃ p' : Int, Row w' q 3 (RdrF A n c p' 3)) ∧ Nigh q w w' := by
  refine (rf_s7 q A n c f p 3 (p : Int) 0 w hR (h.more (by have := hR.2.2; omega)) hf (by omega) hn (.inr ⟨rfl, rfl, rfl, hp⟩)).mono ?_
  rintro e w' ⟨v, p', E, rfl, hR', hN, hst, hv, hvb, hv0⟩
  rcases hst with ⟨rfl, h0, h3⟩ | ⟨rfl, _, rfl, h4⟩
  · exact ⟨by rw [hv0 h0], ⟨p', hR'⟩, hN⟩
  · omega
/-- What 'steps' leaves. -/
def RfSt (q : Nat) (A : Option Addr) (n c : Nat) (T : Fl7) (w : World) (e : Ending) (w' : World) : Prop :=
  ∃ v L p, e = .returned v ∧ OwnI w' w.heap.size v L ∧ Row w' q 3 (RdrF A n c p T.e) ∧ Nigh q w w' ∧ (T.e = 0 → L = T.L ∧ p = (T.p : Int))
end Go.Proofs.Ytcjjcjpkmjbfkaa

/-
  Layer 7: the reference's steps, walked.
-/
namespace Go.Proofs.Ytcjjcjpkmjbfkaa
open Go.RowKit Go.ChangeShapes Go.WideShapes Go.Deep
set_option linter.unusedVariables false
set_option linter.unusedSimpArgs false

/-- A slice that reads so, not in the block q. -/
def RdQ (q : Nat) (w : World) (A : Option Addr) (n : Nat) (V : Nat → Value) : Prop :=
  0 < n → ∃ b o, A = some ⟨b, o, none⟩ ∧ b ≠ q ∧ b < w.heap.size ∧ ∀ j, j < n → w.cell? ⟨b, o + j, none⟩ = some (V j)
theorem RdQ.near {q n : Nat} {w w' : World} {A : Option Addr} {V : Nat → Value} (h : RdQ q w A n V) (k : Nigh q w w') : RdQ q w' A n V := fun hn => by
  obtain ⟨b, o, rfl, h1, h2, h3⟩ := h hn
  refine ⟨b, o, rfl, h1, Nat.lt_of_lt_of_le h2 k.1.1, fun j hj => ?_⟩
  have e := k.1.2 b h2 h1
  rw [← h3 j hj]
  simp only [World.cell?, e]
set_option maxRecDepth 100000 in
set_option maxHeartbeats 8000000 in
theorem rf_u7_no (q : Nat) (A : Option Addr) (n c : Nat) (p E m : Int) (w : World) (hR : Row w q 3 (RdrF A n c p E)) (h0 : E ≠ 0) :
    Calls Try.prog 46 #[.pointer (some ⟨q, 0, none⟩), .int .i64 m] w fun e w' => e = .returned (.int .i64 0) ∧ w' = w := by
  obtain ⟨c0, c1, c2, f1, f2, hq⟩ := rdr_cells hR
  have d0 : (E == 0) = false := by simpa using h0
  clear hR
  go_enter Try.func46, Try.ntmps46
  go_wp2_with fail
  go_ret
  exact ⟨rfl, rfl⟩
set_option maxRecDepth 100000 in
set_option maxHeartbeats 8000000 in
theorem rf_s7_no (q : Nat) (A : Option Addr) (n c : Nat) (p E : Int) (w : World) (hR : Row w q 3 (RdrF A n c p E)) (h0 : E ≠ 0) :
    Calls Try.prog 45 #[.pointer (some ⟨q, 0, none⟩)] w fun e w' => e = .returned (.int .i64 0) ∧ w' = w := by
  have hC := Lib.hid (rf_u7_no q A n c p E 2 w hR h0)
  go_enter Try.func45, Try.ntmps45
  go_wp2_with (go_at_call 46; (with_reducible refine hC.out.mono ?_); rintro e w2 ⟨rfl, hw⟩; have hw' := hw.symm; subst hw'; clear hw)
  exact bodyPost_ret (v := .int .i64 0) (by simp [results, Try.results45, go_sem]) rfl ⟨rfl, rfl⟩

theorem pl_cases (f : Nat → Int) (n : Nat) (is sm g : Int) (r : List Int) (v : Int) (p : Nat) :
    (n < p + sw7 is sm g ∧ (plGo f n is sm (g :: r) v p).e = 3) ∨ (p + sw7 is sm g ≤ n ∧ ¬ Sh (v + sv7 f is sm g p) ∧ (plGo f n is sm (g :: r) v p).e = 6) ∨
    (p + sw7 is sm g ≤ n ∧ Sh (v + sv7 f is sm g p) ∧ (plGo f n is sm (g :: r) v p).e = (plGo f n is sm r (v + sv7 f is sm g p) (p + sw7 is sm g)).e ∧ ((plGo f n is sm r (v + sv7 f is sm g p) (p + sw7 is sm g)).e = 0 → (plGo f n is sm (g :: r) v p).L = (v + sv7 f is sm g p) :: (plGo f n is sm r (v + sv7 f is sm g p) (p + sw7 is sm g)).L ∧ (plGo f n is sm (g :: r) v p).p = (plGo f n is sm r (v + sv7 f is sm g p) (p + sw7 is sm g)).p)) := by
  rw [pl_cons]
  by_cases h1 : n < p + sw7 is sm g
  · rw [if_pos h1]; exact .inl ⟨h1, rfl⟩
  · by_cases h2 : ¬ Sh (v + sv7 f is sm g p)
    · rw [if_neg h1, if_pos h2]; exact .inr (.inl ⟨by omega, h2, rfl⟩)
    · refine .inr (.inr ⟨by omega, Decidable.not_not.1 h2, ?_⟩)
      rw [if_neg h1, if_neg h2]
      by_cases h3 : (plGo f n is sm r (v + sv7 f is sm g p) (p + sw7 is sm g)).e ≠ 0
      · rw [if_pos h3]; exact ⟨rfl, fun e => absurd e h3⟩
      · rw [if_neg h3]; exact ⟨(Decidable.not_not.1 h3).symm, fun _ => ⟨rfl, rfl⟩⟩
theorem sgn2_range {f : Nat → Int} {n p : Nat} (hf : ∀ j, j < n → 0 ≤ f j ∧ f j ≤ 255) (h : p + 2 ≤ n) : -32768 ≤ sgn 2 (numAt f p 2) ∧ sgn 2 (numAt f p 2) ≤ 32767 := by
  have hr := numAt_range (f := f) (p := p) (k := 2) (fun j hj => hf j (by omega))
  unfold sgn; simp only [Int.reducePow] at hr ⊢; split <;> omega
theorem has8_b (g b : Int) {s : Bool} (h : decide (Has8 g b) = s) : (g / b % 2 == 1) = s := by
  rw [← h]; unfold Has8; by_cases e : g / b % 2 = 1 <;> simp [e]

set_option maxRecDepth 100000 in
set_option maxHeartbeats 16000000 in
theorem rf_steps_no2 (q : Nat) (A : Option Addr) (n c : Nat) (p E : Int) (D : Option Addr) (m d : Nat) (G : List Int) (w : World) (hR : Row w q 3 (RdrF A n c p E)) (h0 : E ≠ 0) (hg : RdQ q w D m (I64 (fnL G))) (hm4 : m ≤ 4096) :
    Calls Try.prog 48 #[.pointer (some ⟨q, 0, none⟩), .slice D m d, .int .i64 2, .int .i64 16] w fun e w' => e = .returned (.slice none 0 0) ∧ (∃ k, w' = w.drewN k) := by
  have d0 : (E == 0) = false := by simpa using h0
  have HU := Lib.hid (fun (k : Nat) => rf_u7_no q A n c p E 1 (w.drewN k) (hR.drewN k) h0)
  have HS := Lib.hid (fun (k : Nat) => rf_s7_no q A n c p E (w.drewN k) (hR.drewN k) h0)
  by_cases hm : m = 0
  · subst hm
    clear hg hR
    go_enter Try.func48, Try.ntmps48
    go_wp2_with fail
    go_loopw [9, 10, 17] (fun v v10 y wr => v = .slice none 0 0 ∧ v10 = .int .i64 0 ∧ y = .int .i64 0 ∧ Hid (wr = w)) (fun _ _ _ _ => 0)
    case atStart => exact ⟨rfl, rfl, rfl, Lib.hid rfl⟩
    case round =>
      obtain ⟨rfl, rfl, rfl, hw⟩ := hrel
      have hw' := hw.out
      subst hw'
      clear hw
      go_wp2_with fail
      go_ret
      exact ⟨rfl, 0, rfl⟩
  · obtain ⟨gb, go, rfl, gq, gl, gc⟩ := hg (by omega)
    have gcj := gc 0 (by omega)
    simp only [I64, IntRow, Nat.add_zero] at gcj
    have hmI : (0 : Int) < (m : Int) := by omega
    obtain ⟨c0, c1, c2, f1, f2, hq⟩ := rdr_cells hR
    generalize fnL G 0 = g at *
    clear hg gc hR
    have d1 : (E != 0) = true := by simpa using h0
    · go_enter Try.func48, Try.ntmps48
      go_wp2_with fail
      go_loopw [9, 10, 17] (fun o9 v10 y wr => o9 = .slice none 0 0 ∧ v10 = .int .i64 0 ∧ y = .int .i64 0 ∧ Hid (wr = w)) (fun _ _ _ _ => 0)
      case atStart => exact ⟨rfl, rfl, rfl, Lib.hid rfl⟩
      case round =>
        obtain ⟨rfl, rfl, rfl, hw⟩ := hrel
        have hw' := hw.out
        subst hw'
        clear hw
        go_wp2_with fail
        go_quiet (fail)
        go_wp2_with (first | (go_at_call 46; (with_reducible refine (HU.out nq).mono ?_); rintro e w2 ⟨rfl, hw⟩; have hw' := hw.symm; subst hw'; clear hw) | (go_at_call 45; (with_reducible refine (HS.out nq).mono ?_); rintro e w2 ⟨rfl, hw⟩; have hw' := hw.symm; subst hw'; clear hw))
        all_goals go_ret
        all_goals exact ⟨rfl, nq, rfl⟩

set_option maxRecDepth 100000 in
set_option maxHeartbeats 64000000 in
theorem rf_steps2 (q B : Nat) (A : Option Addr) (n c : Nat) (f : Nat → Int) (p : Nat) (D : Option Addr) (m d : Nat) (G : List Int) (w : World) (hR : Row w q 3 (RdrF A n c (p : Int) 0)) (h : Rd w B A n (U8 f)) (hB : B ≤ q) (hf : ∀ j, j < n → 0 ≤ f j ∧ f j ≤ 255) (hp : p ≤ n) (hn : n ≤ 140737488355328) (hg : RdQ q w D m (I64 (fnL G))) (hm : m = G.length) (hG : Bytes G) (hm4 : m ≤ 4096) :
    Calls Try.prog 48 #[.pointer (some ⟨q, 0, none⟩), .slice D m d, .int .i64 2, .int .i64 16] w (RfSt q A n c (plGo f n 2 16 G 0 p) w) := by
  have hq := hR.2.2
  have hm5 : (m : Int) ≤ 4096 := by omega
  obtain ⟨T, hT⟩ : ∃ T, T = plGo f n 2 16 G 0 p := ⟨_, rfl⟩
  have H0 := Lib.hid (show T.e = (plGo f n 2 16 (G.drop 0) 0 p).e ∧ (T.e = 0 → T.L = [] ++ (plGo f n 2 16 (G.drop 0) 0 p).L ∧ T.p = (plGo f n 2 16 (G.drop 0) 0 p).p) from ⟨by rw [hT]; rfl, fun _ => ⟨by rw [hT]; rfl, by rw [hT]; rfl⟩⟩)
  rw [← hT]
  have HG := Lib.hid hG
  have HM := Lib.hid hm
  have HF := Lib.hid hf
  have HR0 := Lib.hid hR
  clear hT hG hm hf hR
  go_enter Try.func48, Try.ntmps48
  go_wp2_with fail
  go_loopw [9, 10, 17] (fun ov vv y wr => ∃ (j : Nat) (X : List Int) (v : Int) (t : Nat), j ≤ m ∧ X.length = j ∧ vv = .int .i64 v ∧ y = .int .i64 (j : Int) ∧ t ≤ n ∧ (-32768 ≤ v ∧ v ≤ 32767) ∧ OwnI wr w.heap.size ov X ∧ Nigh q w wr ∧ Row wr q 3 (RdrF A n c (t : Int) 0) ∧ Hid (T.e = (plGo f n 2 16 (G.drop j) v t).e ∧ (T.e = 0 → T.L = X ++ (plGo f n 2 16 (G.drop j) v t).L ∧ T.p = (plGo f n 2 16 (G.drop j) v t).p))) (fun _ _ y _ => m - (intOf y).toNat)
  case atStart => exact ⟨0, [], 0, p, by omega, rfl, rfl, rfl, hp, by omega, OwnG.nil _ _ _ _ _, Nigh.refl q w, HR0.out, H0⟩
  case round =>
    obtain ⟨j, X, v, t, hj, hX, rfl, rfl, ht, hv, hO, hN, hR, hT⟩ := hrel
    obtain ⟨A9, c9, rfl, hc9, hr9⟩ := hO.rd (by omega) inL_len
    rw [hX] at hc9 hO ⊢
    have hRb := h.near hN hB hq
    obtain ⟨hv1, hv2⟩ := hv
    clear H0 HR0
    by_cases hjm : j < m
    · have hjm' : (j : Int) < (m : Int) := by omega
      have hjG : j < G.length := by rw [← HM.out]; exact hjm
      have hT1 := hT.out
      have hdrop : G.drop j = fnL G j :: G.drop (j + 1) := by
        rw [List.drop_eq_getElem_cons hjG]
        congr 1
        have := fnL_get hjG
        rw [List.getElem?_eq_getElem hjG] at this
        exact Option.some.inj this
      rw [hdrop] at hT1
      have hgr := HG.out (fnL G j) (List.mem_of_getElem? (fnL_get hjG))
      obtain ⟨gb, go, rfl, gq, gl, gc⟩ := (hg.near hN) (by omega)
      have gcj : wr.cell? ⟨gb, go + j, none⟩ = some (.int .i64 (fnL G j)) := gc j hjm
      obtain ⟨g, hgg⟩ : ∃ g, g = fnL G j := ⟨_, rfl⟩
      rw [← hgg] at gcj hgr hT1
      obtain ⟨s, hs⟩ : ∃ s, decide (Has8 g 2) = s := ⟨_, rfl⟩
      obtain ⟨u, hu⟩ : ∃ u, decide (Has8 g 16) = u := ⟨_, rfl⟩
      have e1 : IntKind.i64.wrap (g.tdiv 2) = g / 2 := by rw [Int.tdiv_eq_ediv_of_nonneg hgr.1, IntKind.wrap_i64]; omega
      have e2 : IntKind.i64.wrap ((g / 2).tmod 2) = g / 2 % 2 := by rw [Int.tmod_eq_emod_of_nonneg (by omega), IntKind.wrap_i64]; omega
      have e3 := has8_b g 2 hs
      have e7 : (g / 2).tmod 2 = g / 2 % 2 := Int.tmod_eq_emod_of_nonneg (by omega)
      have e8 : (g / 16).tmod 2 = g / 16 % 2 := Int.tmod_eq_emod_of_nonneg (by omega)
      have e4 : IntKind.i64.wrap (g.tdiv 16) = g / 16 := by rw [Int.tdiv_eq_ediv_of_nonneg hgr.1, IntKind.wrap_i64]; omega
      have e5 : IntKind.i64.wrap ((g / 16).tmod 2) = g / 16 % 2 := by rw [Int.tmod_eq_emod_of_nonneg (by omega), IntKind.wrap_i64]; omega
      have e6 := has8_b g 16 hu
      have hC := pl_cases f n 2 16 g (G.drop (j + 1)) v t
      rw [swB_is, svB_is, hs, hu, ← hT1.1] at hC
      have HR := Lib.hid hR
      have hT2 := hT1.2
      clear hT hdrop hgg hs hu hg gc hR hT1 hgr hjG hr9
      rcases hC with ⟨a1, a2⟩ | ⟨a1, a2, a4⟩ | ⟨a1, a2, a4, a5⟩
      · have HTe := Lib.hid a2
        clear a2 hT2
        cases s <;> cases u
        · -- ff
          have HU := Lib.hid (fun (k : Nat) => rf_s2_out q B A n c f t (wr.drewN k) (HR.out.drewN k) (hRb.drewN k) hB HF.out ht (by simpa [swB] using a1) hn)
          clear a1
          go_wp2_with fail
          go_quiet (fail)
          go_wp2_with (go_at_call 45; (with_reducible refine (HU.out nq).mono ?_); rintro e w4 ⟨rfl, ⟨p4, hR4⟩, hN4⟩; obtain ⟨k0, k1, k2, k3, k4, k5⟩ := rdr_cells hR4)
          go_ret
          exact ⟨_, [], p4, rfl, OwnG.nil _ _ _ _ _, by rw [HTe.out]; exact hR4, (hN.drewN nq).trans hN4, fun e => by rw [HTe.out] at e; omega⟩
        · exact absurd a1 (by simp [swB]; omega)
        · -- tf
          have HU := Lib.hid (fun (k : Nat) => rf_u1_out q B A n c f t (wr.drewN k) (HR.out.drewN k) (hRb.drewN k) hB HF.out ht (by simpa [swB] using a1) hn)
          clear a1
          go_wp2_with fail
          go_quiet (fail)
          go_wp2_with (go_at_call 46; (with_reducible refine (HU.out nq).mono ?_); rintro e w4 ⟨rfl, ⟨p4, hR4⟩, hN4⟩; obtain ⟨k0, k1, k2, k3, k4, k5⟩ := rdr_cells hR4)
          go_ret
          exact ⟨_, [], p4, rfl, OwnG.nil _ _ _ _ _, by rw [HTe.out]; exact hR4, (hN.drewN nq).trans hN4, fun e => by rw [HTe.out] at e; omega⟩
        · -- tt
          have HU := Lib.hid (fun (k : Nat) => rf_u1_out q B A n c f t (wr.drewN k) (HR.out.drewN k) (hRb.drewN k) hB HF.out ht (by simpa [swB] using a1) hn)
          clear a1
          go_wp2_with fail
          go_quiet (fail)
          go_wp2_with (go_at_call 46; (with_reducible refine (HU.out nq).mono ?_); rintro e w4 ⟨rfl, ⟨p4, hR4⟩, hN4⟩; obtain ⟨k0, k1, k2, k3, k4, k5⟩ := rdr_cells hR4)
          go_ret
          exact ⟨_, [], p4, rfl, OwnG.nil _ _ _ _ _, by rw [HTe.out]; exact hR4, (hN.drewN nq).trans hN4, fun e => by rw [HTe.out] at e; omega⟩
      · have HTe := Lib.hid a4
        clear a4 hT2
        cases s <;> cases u
        · -- ff
          have HU := Lib.hid (fun (k : Nat) => rf_s2_in q B A n c f t (wr.drewN k) (HR.out.drewN k) (hRb.drewN k) hB HF.out (by simpa [swB] using a1) hn)
          have hzb := sgn2_range HF.out (p := t) (by simpa [swB] using a1)
          have hbad : v + sgn 2 (numAt f t 2) < -32768 ∨ 32767 < v + sgn 2 (numAt f t 2) := by simp only [Sh, svB, if_true, if_false, Bool.false_eq_true] at a2; omega
          generalize sgn 2 (numAt f t 2) = z at *
          clear a1 a2
          (rcases hbad with hbad | hbad) <;> first | (exfalso; omega) | (
            go_wp2_with fail
            go_quiet (fail)
            go_wp2_with (first | (go_at_call 45; (with_reducible refine (HU.out nq).mono ?_); rintro e w4 ⟨rfl, _, hR4, hN4⟩; obtain ⟨k0, k1, k2, k3, k4, k5⟩ := rdr_cells hR4) | (go_at_call 63; (with_reducible refine (rf_fail7 q A n c _ 0 6 _ hR4).mono ?_); rintro e w5 ⟨rfl, hR5, hN5⟩; rw [if_pos rfl] at hR5; obtain ⟨m0, m1, m2, m3, m4, m5⟩ := rdr_cells hR5))
            go_ret
            exact ⟨_, [], _, rfl, OwnG.nil _ _ _ _ _, by rw [HTe.out]; exact hR5, ((hN.drewN nq).trans hN4).trans hN5, fun e => by rw [HTe.out] at e; omega⟩)
        · exact absurd a2 (by simp only [svB, Sh]; simp; omega)
        · -- tf
          have HU := Lib.hid (fun (k : Nat) => rf_u1_in q B A n c f t (wr.drewN k) (HR.out.drewN k) (hRb.drewN k) hB HF.out (by simpa [swB] using a1) hn)
          have hzb := HF.out t (by simp [swB] at a1; omega)
          have hbad : v - f t < -32768 ∨ 32767 < v - f t := by simp only [Sh, svB, if_true, if_false, Bool.false_eq_true] at a2; omega
          generalize f t = z at *
          clear a1 a2
          (rcases hbad with hbad | hbad) <;> first | (exfalso; omega) | (
            go_wp2_with fail
            go_quiet (fail)
            go_wp2_with (first | (go_at_call 46; (with_reducible refine (HU.out nq).mono ?_); rintro e w4 ⟨rfl, hR4, hN4⟩; obtain ⟨k0, k1, k2, k3, k4, k5⟩ := rdr_cells hR4) | (go_at_call 63; (with_reducible refine (rf_fail7 q A n c _ 0 6 _ hR4).mono ?_); rintro e w5 ⟨rfl, hR5, hN5⟩; rw [if_pos rfl] at hR5; obtain ⟨m0, m1, m2, m3, m4, m5⟩ := rdr_cells hR5))
            go_ret
            exact ⟨_, [], _, rfl, OwnG.nil _ _ _ _ _, by rw [HTe.out]; exact hR5, ((hN.drewN nq).trans hN4).trans hN5, fun e => by rw [HTe.out] at e; omega⟩)
        · -- tt
          have HU := Lib.hid (fun (k : Nat) => rf_u1_in q B A n c f t (wr.drewN k) (HR.out.drewN k) (hRb.drewN k) hB HF.out (by simpa [swB] using a1) hn)
          have hzb := HF.out t (by simp [swB] at a1; omega)
          have hbad : v + f t < -32768 ∨ 32767 < v + f t := by simp only [Sh, svB, if_true, if_false, Bool.false_eq_true] at a2; omega
          generalize f t = z at *
          clear a1 a2
          (rcases hbad with hbad | hbad) <;> first | (exfalso; omega) | (
            go_wp2_with fail
            go_quiet (fail)
            go_wp2_with (first | (go_at_call 46; (with_reducible refine (HU.out nq).mono ?_); rintro e w4 ⟨rfl, hR4, hN4⟩; obtain ⟨k0, k1, k2, k3, k4, k5⟩ := rdr_cells hR4) | (go_at_call 63; (with_reducible refine (rf_fail7 q A n c _ 0 6 _ hR4).mono ?_); rintro e w5 ⟨rfl, hR5, hN5⟩; rw [if_pos rfl] at hR5; obtain ⟨m0, m1, m2, m3, m4, m5⟩ := rdr_cells hR5))
            go_ret
            exact ⟨_, [], _, rfl, OwnG.nil _ _ _ _ _, by rw [HTe.out]; exact hR5, ((hN.drewN nq).trans hN4).trans hN5, fun e => by rw [HTe.out] at e; omega⟩)
      · have a3 : T.e = (plGo f n 2 16 (G.drop (j + 1)) (v + svB f s u t) (t + swB s u)).e ∧ (T.e = 0 → T.L = (X ++ [v + svB f s u t]) ++ (plGo f n 2 16 (G.drop (j + 1)) (v + svB f s u t) (t + swB s u)).L ∧ T.p = (plGo f n 2 16 (G.drop (j + 1)) (v + svB f s u t) (t + swB s u)).p) := ⟨a4, fun e => by
          obtain ⟨b1, b2⟩ := a5 (by rw [← a4]; exact e)
          obtain ⟨c1, c2⟩ := hT2 e
          exact ⟨by rw [c1, b1, List.append_assoc]; rfl, by rw [c2, b2]⟩⟩
        clear a4 a5 hT2
        cases s <;> cases u
        · -- ff
          have HU := Lib.hid (fun (k : Nat) => rf_s2_in q B A n c f t (wr.drewN k) (HR.out.drewN k) (hRb.drewN k) hB HF.out (by simpa [swB] using a1) hn)
          have hzb := sgn2_range HF.out (p := t) (by simpa [swB] using a1)
          have hsh : -32768 ≤ v + (sgn 2 (numAt f t 2)) ∧ v + (sgn 2 (numAt f t 2)) ≤ 32767 := by simp only [Sh, svB, if_true, if_false, Bool.false_eq_true] at a2; omega
          simp only [swB, svB, if_true, if_false, Bool.false_eq_true] at a3
          have HX := Lib.hid a3
          clear a2 a3
          generalize sgn 2 (numAt f t 2) = z at *
          simp only [swB, if_true, if_false, Bool.false_eq_true] at a1
          have hlen : X.length ≤ 3000000 := by omega
          go_wp2_with fail
          go_quiet (fail)
          go_wp2_with (first | (go_at_call 45; (with_reducible refine (HU.out nq).mono ?_); rintro e w4 ⟨rfl, _, hR4, hN4⟩; obtain ⟨k0, k1, k2, k3, k4, k5⟩ := rdr_cells hR4; have hNN := (hN.drewN nq).trans hN4; have hO4 := OwnG.near (hO.since ((Since.refl wr).drewN nq)) hN4 (fun e => by have := hO.lt e; omega)) | (at_builtin; refine wpList_append_near rfl (.tmp 66) (.tmp 68) rfl _ q hq hNN 3 _ hR4 _ X (by rfl) hO4 _ _ _ (by rfl) rfl hlen ?_; intro v7 w7 hO7 hN7 hR7))
          go_roundw
          case rel => exact ⟨j + 1, X ++ [v + z], v + z, t + 2, by omega, by rw [List.length_append, hX]; rfl, by first | rfl | go_num | simp, by first | rfl | go_num | simp, by omega, hsh, hO7, hN7, hR7, HX⟩
          case measure => simp [intOf]; omega
        · -- ft
          have hsh : -32768 ≤ v ∧ v ≤ 32767 := by simp only [Sh, svB, if_true, if_false, Bool.false_eq_true] at a2; omega
          simp only [swB, svB, if_true, if_false, Bool.false_eq_true, Int.add_zero, Nat.add_zero] at a3
          have HX := Lib.hid a3
          clear a2 a3
          simp only [swB, if_true, if_false, Bool.false_eq_true] at a1
          have hlen : X.length ≤ 3000000 := by omega
          go_wp2_with fail
          go_quiet (fail)
          have hNN := hN.drewN nq
          have hO4 := hO.since ((Since.refl wr).drewN nq)
          have hR4 := HR.out.drewN nq
          obtain ⟨k0, k1, k2, k3, k4, k5⟩ := rdr_cells hR4
          go_wp2_with (first | (at_builtin; refine wpList_append_near rfl (.tmp 66) (.tmp 68) rfl _ q hq hNN 3 _ hR4 _ X (by rfl) hO4 _ _ _ (by rfl) rfl hlen ?_; intro v7 w7 hO7 hN7 hR7))
          go_roundw
          case rel => exact ⟨j + 1, X ++ [v], v, t + 0, by omega, by rw [List.length_append, hX]; rfl, by first | rfl | go_num | simp, by first | rfl | go_num | simp, by omega, hsh, hO7, hN7, hR7, HX⟩
          case measure => simp [intOf]; omega
        · -- tf
          have HU := Lib.hid (fun (k : Nat) => rf_u1_in q B A n c f t (wr.drewN k) (HR.out.drewN k) (hRb.drewN k) hB HF.out (by simpa [swB] using a1) hn)
          have hzb := HF.out t (by simp [swB] at a1; omega)
          have hsh : -32768 ≤ v - (f t) ∧ v - (f t) ≤ 32767 := by simp only [Sh, svB, if_true, if_false, Bool.false_eq_true] at a2; omega
          simp only [swB, svB, if_true, if_false, Bool.false_eq_true, ← Int.sub_eq_add_neg] at a3
          have HX := Lib.hid a3
          clear a2 a3
          generalize f t = z at *
          simp only [swB, if_true, if_false, Bool.false_eq_true] at a1
          have hlen : X.length ≤ 3000000 := by omega
          go_wp2_with fail
          go_quiet (fail)
          go_wp2_with (first | (go_at_call 46; (with_reducible refine (HU.out nq).mono ?_); rintro e w4 ⟨rfl, hR4, hN4⟩; obtain ⟨k0, k1, k2, k3, k4, k5⟩ := rdr_cells hR4; have hNN := (hN.drewN nq).trans hN4; have hO4 := OwnG.near (hO.since ((Since.refl wr).drewN nq)) hN4 (fun e => by have := hO.lt e; omega)) | (at_builtin; refine wpList_append_near rfl (.tmp 66) (.tmp 68) rfl _ q hq hNN 3 _ hR4 _ X (by rfl) hO4 _ _ _ (by rfl) rfl hlen ?_; intro v7 w7 hO7 hN7 hR7))
          go_roundw
          case rel => exact ⟨j + 1, X ++ [v - z], v - z, t + 1, by omega, by rw [List.length_append, hX]; rfl, by first | rfl | go_num | simp, by first | rfl | go_num | simp, by omega, hsh, hO7, hN7, hR7, HX⟩
          case measure => simp [intOf]; omega
        · -- tt
          have HU := Lib.hid (fun (k : Nat) => rf_u1_in q B A n c f t (wr.drewN k) (HR.out.drewN k) (hRb.drewN k) hB HF.out (by simpa [swB] using a1) hn)
          have hzb := HF.out t (by simp [swB] at a1; omega)
          have hsh : -32768 ≤ v + (f t) ∧ v + (f t) ≤ 32767 := by simp only [Sh, svB, if_true, if_false, Bool.false_eq_true] at a2; omega
          simp only [swB, svB, if_true, if_false, Bool.false_eq_true] at a3
          have HX := Lib.hid a3
          clear a2 a3
          generalize f t = z at *
          simp only [swB, if_true, if_false, Bool.false_eq_true] at a1
          have hlen : X.length ≤ 3000000 := by omega
          go_wp2_with fail
          go_quiet (fail)
          go_wp2_with (first | (go_at_call 46; (with_reducible refine (HU.out nq).mono ?_); rintro e w4 ⟨rfl, hR4, hN4⟩; obtain ⟨k0, k1, k2, k3, k4, k5⟩ := rdr_cells hR4; have hNN := (hN.drewN nq).trans hN4; have hO4 := OwnG.near (hO.since ((Since.refl wr).drewN nq)) hN4 (fun e => by have := hO.lt e; omega)) | (at_builtin; refine wpList_append_near rfl (.tmp 66) (.tmp 68) rfl _ q hq hNN 3 _ hR4 _ X (by rfl) hO4 _ _ _ (by rfl) rfl hlen ?_; intro v7 w7 hO7 hN7 hR7))
          go_roundw
          case rel => exact ⟨j + 1, X ++ [v + z], v + z, t + 1, by omega, by rw [List.length_append, hX]; rfl, by first | rfl | go_num | simp, by first | rfl | go_num | simp, by omega, hsh, hO7, hN7, hR7, HX⟩
          case measure => simp [intOf]; omega
    · obtain rfl : j = m := by omega
      obtain ⟨t1, t2⟩ := hT.out
      have hd0 : G.drop j = [] := List.drop_eq_nil_of_le (by rw [← HM.out]; omega)
      rw [hd0] at t1 t2
      have hTe : T.e = 0 := t1
      have hFin := Lib.hid (show RfSt q A n c T w (.returned (.slice A9 j c9)) wr from ⟨_, X, t, rfl, hO, by rw [hTe]; exact hR, hN, fun e => ⟨((t2 e).1.trans (List.append_nil X)).symm, (by rw [(t2 e).2]; rfl)⟩⟩)
      have hjm2 : ¬ (j : Int) < (j : Int) := by omega
      clear t1 t2 hd0 hTe hT hR hg hO hr9
      go_wp2_with fail
      go_ret
      exact hFin.out

set_option maxRecDepth 100000 in
set_option maxHeartbeats 16000000 in
theorem rf_steps_no4 (q : Nat) (A : Option Addr) (n c : Nat) (p E : Int) (D : Option Addr) (m d : Nat) (G : List Int) (w : World) (hR : Row w q 3 (RdrF A n c p E)) (h0 : E ≠ 0) (hg : RdQ q w D m (I64 (fnL G))) (hm4 : m ≤ 4096) :
    Calls Try.prog 48 #[.pointer (some ⟨q, 0, none⟩), .slice D m d, .int .i64 4, .int .i64 32] w fun e w' => e = .returned (.slice none 0 0) ∧ (∃ k, w' = w.drewN k) := by
  have d0 : (E == 0) = false := by simpa using h0
  have HU := Lib.hid (fun (k : Nat) => rf_u7_no q A n c p E 1 (w.drewN k) (hR.drewN k) h0)
  have HS := Lib.hid (fun (k : Nat) => rf_s7_no q A n c p E (w.drewN k) (hR.drewN k) h0)
  by_cases hm : m = 0
  · subst hm
    clear hg hR
    go_enter Try.func48, Try.ntmps48
    go_wp2_with fail
    go_loopw [9, 10, 17] (fun v v10 y wr => v = .slice none 0 0 ∧ v10 = .int .i64 0 ∧ y = .int .i64 0 ∧ Hid (wr = w)) (fun _ _ _ _ => 0)
    case atStart => exact ⟨rfl, rfl, rfl, Lib.hid rfl⟩
    case round =>
      obtain ⟨rfl, rfl, rfl, hw⟩ := hrel
      have hw' := hw.out
      subst hw'
      clear hw
      go_wp2_with fail
      go_ret
      exact ⟨rfl, 0, rfl⟩
  · obtain ⟨gb, go, rfl, gq, gl, gc⟩ := hg (by omega)
    have gcj := gc 0 (by omega)
    simp only [I64, IntRow, Nat.add_zero] at gcj
    have hmI : (0 : Int) < (m : Int) := by omega
    obtain ⟨c0, c1, c2, f1, f2, hq⟩ := rdr_cells hR
    generalize fnL G 0 = g at *
    clear hg gc hR
    have d1 : (E != 0) = true := by simpa using h0
    · go_enter Try.func48, Try.ntmps48
      go_wp2_with fail
      go_loopw [9, 10, 17] (fun o9 v10 y wr => o9 = .slice none 0 0 ∧ v10 = .int .i64 0 ∧ y = .int .i64 0 ∧ Hid (wr = w)) (fun _ _ _ _ => 0)
      case atStart => exact ⟨rfl, rfl, rfl, Lib.hid rfl⟩
      case round =>
        obtain ⟨rfl, rfl, rfl, hw⟩ := hrel
        have hw' := hw.out
        subst hw'
        clear hw
        go_wp2_with fail
        go_quiet (fail)
        go_wp2_with (first | (go_at_call 46; (with_reducible refine (HU.out nq).mono ?_); rintro e w2 ⟨rfl, hw⟩; have hw' := hw.symm; subst hw'; clear hw) | (go_at_call 45; (with_reducible refine (HS.out nq).mono ?_); rintro e w2 ⟨rfl, hw⟩; have hw' := hw.symm; subst hw'; clear hw))
        all_goals go_ret
        all_goals exact ⟨rfl, nq, rfl⟩

set_option maxRecDepth 100000 in
set_option maxHeartbeats 64000000 in
theorem rf_steps4 (q B : Nat) (A : Option Addr) (n c : Nat) (f : Nat → Int) (p : Nat) (D : Option Addr) (m d : Nat) (G : List Int) (w : World) (hR : Row w q 3 (RdrF A n c (p : Int) 0)) (h : Rd w B A n (U8 f)) (hB : B ≤ q) (hf : ∀ j, j < n → 0 ≤ f j ∧ f j ≤ 255) (hp : p ≤ n) (hn : n ≤ 140737488355328) (hg : RdQ q w D m (I64 (fnL G))) (hm : m = G.length) (hG : Bytes G) (hm4 : m ≤ 4096) :
    Calls Try.prog 48 #[.pointer (some ⟨q, 0, none⟩), .slice D m d, .int .i64 4, .int .i64 32] w (RfSt q A n c (plGo f n 4 32 G 0 p) w) := by
  have hq := hR.2.2
  have hm5 : (m : Int) ≤ 4096 := by omega
  obtain ⟨T, hT⟩ : ∃ T, T = plGo f n 4 32 G 0 p := ⟨_, rfl⟩
  have H0 := Lib.hid (show T.e = (plGo f n 4 32 (G.drop 0) 0 p).e ∧ (T.e = 0 → T.L = [] ++ (plGo f n 4 32 (G.drop 0) 0 p).L ∧ T.p = (plGo f n 4 32 (G.drop 0) 0 p).p) from ⟨by rw [hT]; rfl, fun _ => ⟨by rw [hT]; rfl, by rw [hT]; rfl⟩⟩)
  rw [← hT]
  have HG := Lib.hid hG
  have HM := Lib.hid hm
  have HF := Lib.hid hf
  have HR0 := Lib.hid hR
  clear hT hG hm hf hR
  go_enter Try.func48, Try.ntmps48
  go_wp2_with fail
  go_loopw [9, 10, 17] (fun ov vv y wr => ∃ (j : Nat) (X : List Int) (v : Int) (t : Nat), j ≤ m ∧ X.length = j ∧ vv = .int .i64 v ∧ y = .int .i64 (j : Int) ∧ t ≤ n ∧ (-32768 ≤ v ∧ v ≤ 32767) ∧ OwnI wr w.heap.size ov X ∧ Nigh q w wr ∧ Row wr q 3 (RdrF A n c (t : Int) 0) ∧ Hid (T.e = (plGo f n 4 32 (G.drop j) v t).e ∧ (T.e = 0 → T.L = X ++ (plGo f n 4 32 (G.drop j) v t).L ∧ T.p = (plGo f n 4 32 (G.drop j) v t).p))) (fun _ _ y _ => m - (intOf y).toNat)
  case atStart => exact ⟨0, [], 0, p, by omega, rfl, rfl, rfl, hp, by omega, OwnG.nil _ _ _ _ _, Nigh.refl q w, HR0.out, H0⟩
  case round =>
    obtain ⟨j, X, v, t, hj, hX, rfl, rfl, ht, hv, hO, hN, hR, hT⟩ := hrel
    obtain ⟨A9, c9, rfl, hc9, hr9⟩ := hO.rd (by omega) inL_len
    rw [hX] at hc9 hO ⊢
    have hRb := h.near hN hB hq
    obtain ⟨hv1, hv2⟩ := hv
    clear H0 HR0
    by_cases hjm : j < m
    · have hjm' : (j : Int) < (m : Int) := by omega
      have hjG : j < G.length := by rw [← HM.out]; exact hjm
      have hT1 := hT.out
      have hdrop : G.drop j = fnL G j :: G.drop (j + 1) := by
        rw [List.drop_eq_getElem_cons hjG]
        congr 1
        have := fnL_get hjG
        rw [List.getElem?_eq_getElem hjG] at this
        exact Option.some.inj this
      rw [hdrop] at hT1
      have hgr := HG.out (fnL G j) (List.mem_of_getElem? (fnL_get hjG))
      obtain ⟨gb, go, rfl, gq, gl, gc⟩ := (hg.near hN) (by omega)
      have gcj : wr.cell? ⟨gb, go + j, none⟩ = some (.int .i64 (fnL G j)) := gc j hjm
      obtain ⟨g, hgg⟩ : ∃ g, g = fnL G j := ⟨_, rfl⟩
      rw [← hgg] at gcj hgr hT1
      obtain ⟨s, hs⟩ : ∃ s, decide (Has8 g 4) = s := ⟨_, rfl⟩
      obtain ⟨u, hu⟩ : ∃ u, decide (Has8 g 32) = u := ⟨_, rfl⟩
      have e1 : IntKind.i64.wrap (g.tdiv 4) = g / 4 := by rw [Int.tdiv_eq_ediv_of_nonneg hgr.1, IntKind.wrap_i64]; omega
      have e2 : IntKind.i64.wrap ((g / 4).tmod 2) = g / 4 % 2 := by rw [Int.tmod_eq_emod_of_nonneg (by omega), IntKind.wrap_i64]; omega
      have e3 := has8_b g 4 hs
      have e7 : (g / 4).tmod 2 = g / 4 % 2 := Int.tmod_eq_emod_of_nonneg (by omega)
      have e8 : (g / 32).tmod 2 = g / 32 % 2 := Int.tmod_eq_emod_of_nonneg (by omega)
      have e4 : IntKind.i64.wrap (g.tdiv 32) = g / 32 := by rw [Int.tdiv_eq_ediv_of_nonneg hgr.1, IntKind.wrap_i64]; omega
      have e5 : IntKind.i64.wrap ((g / 32).tmod 2) = g / 32 % 2 := by rw [Int.tmod_eq_emod_of_nonneg (by omega), IntKind.wrap_i64]; omega
      have e6 := has8_b g 32 hu
      have hC := pl_cases f n 4 32 g (G.drop (j + 1)) v t
      rw [swB_is, svB_is, hs, hu, ← hT1.1] at hC
      have HR := Lib.hid hR
      have hT2 := hT1.2
      clear hT hdrop hgg hs hu hg gc hR hT1 hgr hjG hr9
      rcases hC with ⟨a1, a2⟩ | ⟨a1, a2, a4⟩ | ⟨a1, a2, a4, a5⟩
      · have HTe := Lib.hid a2
        clear a2 hT2
        cases s <;> cases u
        · -- ff
          have HU := Lib.hid (fun (k : Nat) => rf_s2_out q B A n c f t (wr.drewN k) (HR.out.drewN k) (hRb.drewN k) hB HF.out ht (by simpa [swB] using a1) hn)
          clear a1
          go_wp2_with fail
          go_quiet (fail)
          go_wp2_with (go_at_call 45; (with_reducible refine (HU.out nq).mono ?_); rintro e w4 ⟨rfl, ⟨p4, hR4⟩, hN4⟩; obtain ⟨k0, k1, k2, k3, k4, k5⟩ := rdr_cells hR4)
          go_ret
          exact ⟨_, [], p4, rfl, OwnG.nil _ _ _ _ _, by rw [HTe.out]; exact hR4, (hN.drewN nq).trans hN4, fun e => by rw [HTe.out] at e; omega⟩
        · exact absurd a1 (by simp [swB]; omega)
        · -- tf
          have HU := Lib.hid (fun (k : Nat) => rf_u1_out q B A n c f t (wr.drewN k) (HR.out.drewN k) (hRb.drewN k) hB HF.out ht (by simpa [swB] using a1) hn)
          clear a1
          go_wp2_with fail
          go_quiet (fail)
          go_wp2_with (go_at_call 46; (with_reducible refine (HU.out nq).mono ?_); rintro e w4 ⟨rfl, ⟨p4, hR4⟩, hN4⟩; obtain ⟨k0, k1, k2, k3, k4, k5⟩ := rdr_cells hR4)
          go_ret
          exact ⟨_, [], p4, rfl, OwnG.nil _ _ _ _ _, by rw [HTe.out]; exact hR4, (hN.drewN nq).trans hN4, fun e => by rw [HTe.out] at e; omega⟩
        · -- tt
          have HU := Lib.hid (fun (k : Nat) => rf_u1_out q B A n c f t (wr.drewN k) (HR.out.drewN k) (hRb.drewN k) hB HF.out ht (by simpa [swB] using a1) hn)
          clear a1
          go_wp2_with fail
          go_quiet (fail)
          go_wp2_with (go_at_call 46; (with_reducible refine (HU.out nq).mono ?_); rintro e w4 ⟨rfl, ⟨p4, hR4⟩, hN4⟩; obtain ⟨k0, k1, k2, k3, k4, k5⟩ := rdr_cells hR4)
          go_ret
          exact ⟨_, [], p4, rfl, OwnG.nil _ _ _ _ _, by rw [HTe.out]; exact hR4, (hN.drewN nq).trans hN4, fun e => by rw [HTe.out] at e; omega⟩
      · have HTe := Lib.hid a4
        clear a4 hT2
        cases s <;> cases u
        · -- ff
          have HU := Lib.hid (fun (k : Nat) => rf_s2_in q B A n c f t (wr.drewN k) (HR.out.drewN k) (hRb.drewN k) hB HF.out (by simpa [swB] using a1) hn)
          have hzb := sgn2_range HF.out (p := t) (by simpa [swB] using a1)
          have hbad : v + sgn 2 (numAt f t 2) < -32768 ∨ 32767 < v + sgn 2 (numAt f t 2) := by simp only [Sh, svB, if_true, if_false, Bool.false_eq_true] at a2; omega
          generalize sgn 2 (numAt f t 2) = z at *
          clear a1 a2
          (rcases hbad with hbad | hbad) <;> first | (exfalso; omega) | (
            go_wp2_with fail
            go_quiet (fail)
            go_wp2_with (first | (go_at_call 45; (with_reducible refine (HU.out nq).mono ?_); rintro e w4 ⟨rfl, _, hR4, hN4⟩; obtain ⟨k0, k1, k2, k3, k4, k5⟩ := rdr_cells hR4) | (go_at_call 63; (with_reducible refine (rf_fail7 q A n c _ 0 6 _ hR4).mono ?_); rintro e w5 ⟨rfl, hR5, hN5⟩; rw [if_pos rfl] at hR5; obtain ⟨m0, m1, m2, m3, m4, m5⟩ := rdr_cells hR5))
            go_ret
            exact ⟨_, [], _, rfl, OwnG.nil _ _ _ _ _, by rw [HTe.out]; exact hR5, ((hN.drewN nq).trans hN4).trans hN5, fun e => by rw [HTe.out] at e; omega⟩)
        · exact absurd a2 (by simp only [svB, Sh]; simp; omega)
        · -- tf
          have HU := Lib.hid (fun (k : Nat) => rf_u1_in q B A n c f t (wr.drewN k) (HR.out.drewN k) (hRb.drewN k) hB HF.out (by simpa [swB] using a1) hn)
          have hzb := HF.out t (by simp [swB] at a1; omega)
          have hbad : v - f t < -32768 ∨ 32767 < v - f t := by simp only [Sh, svB, if_true, if_false, Bool.false_eq_true] at a2; omega
          generalize f t = z at *
          clear a1 a2
          (rcases hbad with hbad | hbad) <;> first | (exfalso; omega) | (
            go_wp2_with fail
            go_quiet (fail)
            go_wp2_with (first | (go_at_call 46; (with_reducible refine (HU.out nq).mono ?_); rintro e w4 ⟨rfl, hR4, hN4⟩; obtain ⟨k0, k1, k2, k3, k4, k5⟩ := rdr_cells hR4) | (go_at_call 63; (with_reducible refine (rf_fail7 q A n c _ 0 6 _ hR4).mono ?_); rintro e w5 ⟨rfl, hR5, hN5⟩; rw [if_pos rfl] at hR5; obtain ⟨m0, m1, m2, m3, m4, m5⟩ := rdr_cells hR5))
            go_ret
            exact ⟨_, [], _, rfl, OwnG.nil _ _ _ _ _, by rw [HTe.out]; exact hR5, ((hN.drewN nq).trans hN4).trans hN5, fun e => by rw [HTe.out] at e; omega⟩)
        · -- tt
          have HU := Lib.hid (fun (k : Nat) => rf_u1_in q B A n c f t (wr.drewN k) (HR.out.drewN k) (hRb.drewN k) hB HF.out (by simpa [swB] using a1) hn)
          have hzb := HF.out t (by simp [swB] at a1; omega)
          have hbad : v + f t < -32768 ∨ 32767 < v + f t := by simp only [Sh, svB, if_true, if_false, Bool.false_eq_true] at a2; omega
          generalize f t = z at *
          clear a1 a2
          (rcases hbad with hbad | hbad) <;> first | (exfalso; omega) | (
            go_wp2_with fail
            go_quiet (fail)
            go_wp2_with (first | (go_at_call 46; (with_reducible refine (HU.out nq).mono ?_); rintro e w4 ⟨rfl, hR4, hN4⟩; obtain ⟨k0, k1, k2, k3, k4, k5⟩ := rdr_cells hR4) | (go_at_call 63; (with_reducible refine (rf_fail7 q A n c _ 0 6 _ hR4).mono ?_); rintro e w5 ⟨rfl, hR5, hN5⟩; rw [if_pos rfl] at hR5; obtain ⟨m0, m1, m2, m3, m4, m5⟩ := rdr_cells hR5))
            go_ret
            exact ⟨_, [], _, rfl, OwnG.nil _ _ _ _ _, by rw [HTe.out]; exact hR5, ((hN.drewN nq).trans hN4).trans hN5, fun e => by rw [HTe.out] at e; omega⟩)
      · have a3 : T.e = (plGo f n 4 32 (G.drop (j + 1)) (v + svB f s u t) (t + swB s u)).e ∧ (T.e = 0 → T.L = (X ++ [v + svB f s u t]) ++ (plGo f n 4 32 (G.drop (j + 1)) (v + svB f s u t) (t + swB s u)).L ∧ T.p = (plGo f n 4 32 (G.drop (j + 1)) (v + svB f s u t) (t + swB s u)).p) := ⟨a4, fun e => by
          obtain ⟨b1, b2⟩ := a5 (by rw [← a4]; exact e)
          obtain ⟨c1, c2⟩ := hT2 e
          exact ⟨by rw [c1, b1, List.append_assoc]; rfl, by rw [c2, b2]⟩⟩
        clear a4 a5 hT2
        cases s <;> cases u
        · -- ff
          have HU := Lib.hid (fun (k : Nat) => rf_s2_in q B A n c f t (wr.drewN k) (HR.out.drewN k) (hRb.drewN k) hB HF.out (by simpa [swB] using a1) hn)
          have hzb := sgn2_range HF.out (p := t) (by simpa [swB] using a1)
          have hsh : -32768 ≤ v + (sgn 2 (numAt f t 2)) ∧ v + (sgn 2 (numAt f t 2)) ≤ 32767 := by simp only [Sh, svB, if_true, if_false, Bool.false_eq_true] at a2; omega
          simp only [swB, svB, if_true, if_false, Bool.false_eq_true] at a3
          have HX := Lib.hid a3
          clear a2 a3
          generalize sgn 2 (numAt f t 2) = z at *
          simp only [swB, if_true, if_false, Bool.false_eq_true] at a1
          have hlen : X.length ≤ 3000000 := by omega
          go_wp2_with fail
          go_quiet (fail)
          go_wp2_with (first | (go_at_call 45; (with_reducible refine (HU.out nq).mono ?_); rintro e w4 ⟨rfl, _, hR4, hN4⟩; obtain ⟨k0, k1, k2, k3, k4, k5⟩ := rdr_cells hR4; have hNN := (hN.drewN nq).trans hN4; have hO4 := OwnG.near (hO.since ((Since.refl wr).drewN nq)) hN4 (fun e => by have := hO.lt e; omega)) | (at_builtin; refine wpList_append_near rfl (.tmp 66) (.tmp 68) rfl _ q hq hNN 3 _ hR4 _ X (by rfl) hO4 _ _ _ (by rfl) rfl hlen ?_; intro v7 w7 hO7 hN7 hR7))
          go_roundw
          case rel => exact ⟨j + 1, X ++ [v + z], v + z, t + 2, by omega, by rw [List.length_append, hX]; rfl, by first | rfl | go_num | simp, by first | rfl | go_num | simp, by omega, hsh, hO7, hN7, hR7, HX⟩
          case measure => simp [intOf]; omega
        · -- ft
          have hsh : -32768 ≤ v ∧ v ≤ 32767 := by simp only [Sh, svB, if_true, if_false, Bool.false_eq_true] at a2; omega
          simp only [swB, svB, if_true, if_false, Bool.false_eq_true, Int.add_zero, Nat.add_zero] at a3
          have HX := Lib.hid a3
          clear a2 a3
          simp only [swB, if_true, if_false, Bool.false_eq_true] at a1
          have hlen : X.length ≤ 3000000 := by omega
          go_wp2_with fail
          go_quiet (fail)
          have hNN := hN.drewN nq
          have hO4 := hO.since ((Since.refl wr).drewN nq)
          have hR4 := HR.out.drewN nq
          obtain ⟨k0, k1, k2, k3, k4, k5⟩ := rdr_cells hR4
          go_wp2_with (first | (at_builtin; refine wpList_append_near rfl (.tmp 66) (.tmp 68) rfl _ q hq hNN 3 _ hR4 _ X (by rfl) hO4 _ _ _ (by rfl) rfl hlen ?_; intro v7 w7 hO7 hN7 hR7))
          go_roundw
          case rel => exact ⟨j + 1, X ++ [v], v, t + 0, by omega, by rw [List.length_append, hX]; rfl, by first | rfl | go_num | simp, by first | rfl | go_num | simp, by omega, hsh, hO7, hN7, hR7, HX⟩
          case measure => simp [intOf]; omega
        · -- tf
          have HU := Lib.hid (fun (k : Nat) => rf_u1_in q B A n c f t (wr.drewN k) (HR.out.drewN k) (hRb.drewN k) hB HF.out (by simpa [swB] using a1) hn)
          have hzb := HF.out t (by simp [swB] at a1; omega)
          have hsh : -32768 ≤ v - (f t) ∧ v - (f t) ≤ 32767 := by simp only [Sh, svB, if_true, if_false, Bool.false_eq_true] at a2; omega
          simp only [swB, svB, if_true, if_false, Bool.false_eq_true, ← Int.sub_eq_add_neg] at a3
          have HX := Lib.hid a3
          clear a2 a3
          generalize f t = z at *
          simp only [swB, if_true, if_false, Bool.false_eq_true] at a1
          have hlen : X.length ≤ 3000000 := by omega
          go_wp2_with fail
          go_quiet (fail)
          go_wp2_with (first | (go_at_call 46; (with_reducible refine (HU.out nq).mono ?_); rintro e w4 ⟨rfl, hR4, hN4⟩; obtain ⟨k0, k1, k2, k3, k4, k5⟩ := rdr_cells hR4; have hNN := (hN.drewN nq).trans hN4; have hO4 := OwnG.near (hO.since ((Since.refl wr).drewN nq)) hN4 (fun e => by have := hO.lt e; omega)) | (at_builtin; refine wpList_append_near rfl (.tmp 66) (.tmp 68) rfl _ q hq hNN 3 _ hR4 _ X (by rfl) hO4 _ _ _ (by rfl) rfl hlen ?_; intro v7 w7 hO7 hN7 hR7))
          go_roundw
          case rel => exact ⟨j + 1, X ++ [v - z], v - z, t + 1, by omega, by rw [List.length_append, hX]; rfl, by first | rfl | go_num | simp, by first | rfl | go_num | simp, by omega, hsh, hO7, hN7, hR7, HX⟩
          case measure => simp [intOf]; omega
        · -- tt
          have HU := Lib.hid (fun (k : Nat) => rf_u1_in q B A n c f t (wr.drewN k) (HR.out.drewN k) (hRb.drewN k) hB HF.out (by simpa [swB] using a1) hn)
          have hzb := HF.out t (by simp [swB] at a1; omega)
          have hsh : -32768 ≤ v + (f t) ∧ v + (f t) ≤ 32767 := by simp only [Sh, svB, if_true, if_false, Bool.false_eq_true] at a2; omega
          simp only [swB, svB, if_true, if_false, Bool.false_eq_true] at a3
          have HX := Lib.hid a3
          clear a2 a3
          generalize f t = z at *
          simp only [swB, if_true, if_false, Bool.false_eq_true] at a1
          have hlen : X.length ≤ 3000000 := by omega
          go_wp2_with fail
          go_quiet (fail)
          go_wp2_with (first | (go_at_call 46; (with_reducible refine (HU.out nq).mono ?_); rintro e w4 ⟨rfl, hR4, hN4⟩; obtain ⟨k0, k1, k2, k3, k4, k5⟩ := rdr_cells hR4; have hNN := (hN.drewN nq).trans hN4; have hO4 := OwnG.near (hO.since ((Since.refl wr).drewN nq)) hN4 (fun e => by have := hO.lt e; omega)) | (at_builtin; refine wpList_append_near rfl (.tmp 66) (.tmp 68) rfl _ q hq hNN 3 _ hR4 _ X (by rfl) hO4 _ _ _ (by rfl) rfl hlen ?_; intro v7 w7 hO7 hN7 hR7))
          go_roundw
          case rel => exact ⟨j + 1, X ++ [v + z], v + z, t + 1, by omega, by rw [List.length_append, hX]; rfl, by first | rfl | go_num | simp, by first | rfl | go_num | simp, by omega, hsh, hO7, hN7, hR7, HX⟩
          case measure => simp [intOf]; omega
    · obtain rfl : j = m := by omega
      obtain ⟨t1, t2⟩ := hT.out
      have hd0 : G.drop j = [] := List.drop_eq_nil_of_le (by rw [← HM.out]; omega)
      rw [hd0] at t1 t2
      have hTe : T.e = 0 := t1
      have hFin := Lib.hid (show RfSt q A n c T w (.returned (.slice A9 j c9)) wr from ⟨_, X, t, rfl, hO, by rw [hTe]; exact hR, hN, fun e => ⟨((t2 e).1.trans (List.append_nil X)).symm, (by rw [(t2 e).2]; rfl)⟩⟩)
      have hjm2 : ¬ (j : Int) < (j : Int) := by omega
      clear t1 t2 hd0 hTe hT hR hg hO hr9
      go_wp2_with fail
      go_ret
      exact hFin.out

end Go.Proofs.Ytcjjcjpkmjbfkaa

/-
  Layer 7: the reference's Read: what its steps leave; numbers of two bytes.
-/
namespace Go.Proofs.Ytcjjcjpkmjbfkaa
open Go.RowKit Go.ChangeShapes Go.WideShapes Go.Deep
set_option linter.unusedVariables false
set_option linter.unusedSimpArgs false

theorem rf_u2_in (q B : Nat) (A : Option Addr) (n c : Nat) (f : Nat → Int) (p : Nat) (w : World) (hR : Row w q 3 (RdrF A n c (p : Int) 0)) (h : Rd w B A n (U8 f)) (hB : B ≤ q) (hf : ∀ j, j < n → 0 ≤ f j ∧ f j ≤ 255) (hp : p + 2 ≤ n) (hn : n ≤ 140737488355328) :
    Calls Try.prog 46 #[.pointer (some ⟨q, 0, none⟩), .int .i64 2] w fun e w' => e = .returned (.int .i64 (numAt f p 2)) ∧ Row w' q 3 (RdrF A n c ((p + 2 : Nat) : Int) 0) ∧ Nigh q w w' := by
  refine (rf_u7 q A n c f p 2 2 3 (p : Int) 0 w hR (h.more (by have := hR.2.2; omega)) hf rfl (by omega) (by omega) hn (.inr ⟨rfl, rfl, rfl, by omega⟩)).mono ?_
  rintro e w' ⟨v, p', E, rfl, hR', hN, hst, hv, hv0⟩
  rcases hst with ⟨rfl, _, h3⟩ | ⟨rfl, _, rfl, _⟩
  · have := h3 rfl; omega
  · exact ⟨by rw [hv rfl], hR', hN⟩
theorem rf_u2_out (q B : Nat) (A : Option Addr) (n c : Nat) (f : Nat → Int) (p : Nat) (w : World) (hR : Row w q 3 (RdrF A n c (p : Int) 0)) (h : Rd w B A n (U8 f)) (hB : B ≤ q) (hf : ∀ j, j < n → 0 ≤ f j ∧ f j ≤ 255) (hp : p ≤ n) (hp1 : n < p + 2) (hn : n ≤ 140737488355328) :
    Calls Try.prog 46 #[.pointer (some ⟨q, 0, none⟩), .int .i64 2] w fun e w' => e = .returned (.int .i64 0) ∧ (∃ p' : Int, Row w' q 3 (RdrF A n c p' 3)) ∧ Nigh q w w' := by
  refine (rf_u7 q A n c f p 2 2 3 (p : Int) 0 w hR (h.more (by have := hR.2.2; omega)) hf rfl (by omega) (by omega) hn (.inr ⟨rfl, rfl, rfl, hp⟩)).mono ?_
  rintro e w' ⟨v, p', E, rfl, hR', hN, hst, hv, hv0⟩
  rcases hst with ⟨rfl, h0, h3⟩ | ⟨rfl, _, rfl, h4⟩
  · exact ⟨by rw [hv0 h0], ⟨p', hR'⟩, hN⟩
  · omega
theorem Two.near {w w' : World} {q b : Nat} {u v : Value} (h : Two w b u v) (k : Nigh q w w') (hb : b ≠ q) : Two w' b u v := by
  have e := k.1.2 b h.2.2.2.2 hb
  have hc : ∀ o, w'.cell? ⟨b, o, none⟩ = w.cell? ⟨b, o, none⟩ := fun o => by simp only [World.cell?, e]
  have hf : ∀ o, w'.frozen? ⟨b, o, none⟩ = w.frozen? ⟨b, o, none⟩ := fun o => by simp only [World.frozen?, e]
  exact ⟨(hc 0).trans h.1, (hc 1).trans h.2.1, (hf 0).trans h.2.2.1, (hf 1).trans h.2.2.2.1, Nat.lt_of_lt_of_le h.2.2.2.2 k.1.1⟩
/-- What the reference's 'Read' leaves. -/
def RrPost7 (f : Nat → Int) (n : Nat) (w : World) (e : Ending) (w' : World) : Prop := ∃ A1 c1 A2 c2, e = .returned (.tuple #[.agg #[.slice A1 (lay7 (rdAns7 f n)).length c1, .slice A2 (rdAns7 f n).m c2], .int .i64 (rdAns7 f n).e]) ∧ RdOL w' w'.heap.size A1 (lay7 (rdAns7 f n)) ∧ Rd w' w'.heap.size A2 (rdAns7 f n).m (U8 (fun j => f ((rdAns7 f n).s + j))) ∧ Since w w'
theorem rrpost7_no {f : Nat → Int} {n : Nat} {w w' : World} {x : Int} (h : rdAns7 f n = no7 x) (hS : Since w w') : RrPost7 f n w (.returned (.tuple #[.agg #[.slice none 0 0, .slice none 0 0], .int .i64 x])) w' := by
  unfold RrPost7
  rw [h]
  exact ⟨none, 0, none, 0, rfl, ⟨[], rfl, RdG.nil, fun j h L h1 h2 => by simp at h1⟩, Rd.zero, hS⟩
theorem fnL_map {k j : Nat} {e : Nat → Int} (hj : j < k) : fnL ((List.range k).map e) j = e j := by
  unfold fnL; simp [List.getD_eq_getElem?_getD, hj]
theorem Nigh.setNew {q b : Nat} {w w' : World} (h : Nigh q w w') (hb : w.heap.size ≤ b) (o : Nat) (v : Value) : Nigh q w (w'.setCell ⟨b, o, none⟩ v) :=
  ⟨⟨by simpa [World.setCell] using h.1.1, fun x hx hq => by rw [← h.1.2 x hx hq]; simp [World.setCell, Array.getElem?_modify, show ¬ b = x by omega]⟩, fun w0 h0 hq => (h.2 w0 h0 hq).setCell (Nat.le_trans h0.below.size hb) v⟩
theorem Nigh.alloc {q : Nat} {w w' : World} (h : Nigh q w w') (o : Obj) : Nigh q w (w'.alloc o) := h.since ((Since.refl w').alloc o)
theorem Two.grown {w w' : World} {b : Nat} {u v : Value} {row : Option Nat} (h : Two w b u v) (hg : w.grownBy w' row) (hb : row ≠ some b) : Two w' b u v := by
  have e := hg.block b h.2.2.2.2 (fun x => hb x.symm)
  have hc : ∀ o, w'.cell? ⟨b, o, none⟩ = w.cell? ⟨b, o, none⟩ := fun o => by simp only [World.cell?, e]
  have hf : ∀ o, w'.frozen? ⟨b, o, none⟩ = w.frozen? ⟨b, o, none⟩ := fun o => by simp only [World.frozen?, e]
  exact ⟨(hc 0).trans h.1, (hc 1).trans h.2.1, (hf 0).trans h.2.2.1, (hf 1).trans h.2.2.2.1, Nat.lt_of_lt_of_le h.2.2.2.2 hg.size⟩
theorem Two.set1 {w : World} {b : Nat} {u v : Value} (h : Two w b u v) (v' : Value) : Two (w.setCell ⟨b, 1, none⟩ v') b u v' := by
  obtain ⟨h1, h2, h3, h4, h5⟩ := h
  refine ⟨?_, ?_, (World.frozen?_setCell _ _ _ _).trans h3, (World.frozen?_setCell _ _ _ _).trans h4, by simpa [World.setCell] using h5⟩
  · rw [cell_set, if_neg (fun e => by simp at e)]; exact h1
  · rw [cell_set, if_pos ⟨rfl, rfl⟩, h2]; simp
theorem Two.set0 {w : World} {b : Nat} {u v : Value} (h : Two w b u v) (u' : Value) : Two (w.setCell ⟨b, 0, none⟩ u') b u' v := by
  obtain ⟨h1, h2, h3, h4, h5⟩ := h
  refine ⟨?_, ?_, (World.frozen?_setCell _ _ _ _).trans h3, (World.frozen?_setCell _ _ _ _).trans h4, by simpa [World.setCell] using h5⟩
  · rw [cell_set, if_pos ⟨rfl, rfl⟩, h1]; simp
  · rw [cell_set, if_neg (fun e => by simp at e)]; exact h2
theorem OwnG.set {α : Type} {enc : α → List Value} {t : TypeId} {k base b : Nat} {w : World} {v : Value} {L : List α} (h : OwnG t k enc w base v L) (hb : b < base) (o : Nat) (x : Value) : OwnG t k enc (w.setCell ⟨b, o, none⟩ x) base v L :=
  h.keep fun y hy _ => by simp [World.setCell, Array.getElem?_modify, show ¬ b = y by omega]
section
variable {α : Type} {k : Nat} {enc : α → List Value} {P : Program}
/-- append to an own row, as the run itself. -/
theorem run_append_g {w : World} (t e ty : TypeId) (hk0 : 0 < k) (hk : ∀ a, (enc a).length = k) (h1 : ∀ a, ∀ u ∈ enc a, u.oneCell' = true) (bytes : Nat)
    (ht : P.underlying t = some (.slice e)) (hinfo : ∃ i z, P.info? e = some i ∧ i.zero = some z ∧ i.size = k ∧ i.bytes = bytes ∧ z.cells.size = k)
    (base : Nat) (v : Value) (L : List α) (hown : OwnG e k enc w base v L) (B : Nat) (A : Option Addr) (n c : Nat) (M : List α) (hn : n = M.length) (hr : RdG k enc w B A M)
    (hbytes : (L.length + M.length) * bytes ≤ 140737488355328) (h63 : L.length + M.length ≤ maxLen) (hbase : base ≤ w.heap.size) :
    ∃ v' w', (Builtin.append_ #[t, t] ty #[v, .slice A n c]).run P w = .ok v' w' ∧ OwnG e k enc w' base v' (L ++ M) ∧ w.grownBy w' v.ownBlock := by
  subst hn
  obtain ⟨i, z, hi, hz, hsz, hby, hzs⟩ := hinfo
  have hrr : Rd w B A (M.length * k) (fun j => (cellsG enc M).getD j undef) := fun hn => by
    have hM : 0 < M.length := by
      rcases Nat.eq_zero_or_pos M.length with h | h
      · rw [h, Nat.zero_mul] at hn; omega
      · exact h
    obtain ⟨b, o', rfl, hb, hc⟩ := hr hM
    refine ⟨b, o', rfl, hb, fun j hj => ?_⟩
    have hjk : j / k < M.length := by rw [Nat.div_lt_iff_lt_mul hk0]; exact hj
    have hm := Nat.mod_lt j hk0
    have hg := hc (j / k) _ (List.getElem?_eq_getElem hjk) (j % k) hm
    have hg2 := cellsG_get hk M (j / k) _ (List.getElem?_eq_getElem hjk) (j % k) hm
    rw [Nat.div_add_mod' j k] at hg2
    rw [Nat.add_assoc, Nat.div_add_mod' j k] at hg
    show _ = some ((cellsG enc M).getD j undef)
    rw [List.getD_eq_getElem?_getD, hg2, ← List.getD_eq_getElem?_getD]
    exact hg
  have hone : ∀ u ∈ tab (M.length * k) (fun j => (cellsG enc M).getD j undef), u.oneCell' = true := by
    rw [← cellsG_tab hk]
    intro u hu
    unfold cellsG at hu
    rw [List.mem_flatMap] at hu
    obtain ⟨a, _, ha⟩ := hu
    exact h1 a u ha
  obtain ⟨v', w', hrun, h2, h3⟩ := run_append_k (P := P) w base t ty e i z k bytes ht hi hz hsz hby hzs hk0 v L.length (cellsG enc L) hown B A M.length c _ hrr hone hbytes h63 hbase
  rw [← cellsG_tab hk, ← cellsG_append] at h2
  refine ⟨v', w', hrun, ?_, h3⟩
  unfold OwnG
  rw [List.length_append]
  exact h2
end
/-- append of one byte, just built, as the run itself; beside a block of two cells and a reader. -/
theorem run_append_byte {w : World} (ty t0 : TypeId) (base : Nat) (v : Value) (L : List Int) (hown : OwnB w base v L) (b : Nat) (hb : b = w.heap.size) (x : Int) (hL : L.length ≤ 3000000) (hbase : base ≤ w.heap.size) :
    ∃ v' w', (Builtin.append_ #[25, 25] ty #[v, .slice (some ⟨b, 0, none⟩) 1 1]).run Try.prog (w.alloc (.cells #[.int .u8 x] t0)) = .ok v' w' ∧ OwnB w' base v' (L ++ [x]) ∧ (w.alloc (.cells #[.int .u8 x] t0)).grownBy w' v.ownBlock :=
  run_append_g 25 5 ty (by omega) byL_len byL_one 1 Try.underlying25 infoBy base v L (hown.alloc _) _ _ 1 1 [x] rfl (rdb_new w b hb t0 #[.int .u8 x] [x] rfl) (by simp only [List.length_cons, List.length_nil]; omega) (by simp only [List.length_cons, List.length_nil, maxLen]; omega) (by simp; omega)
theorem own_rdq {q base : Nat} {w : World} {v : Value} {L : List Int} (h : OwnI w base v L) (hq : q < base) : ∃ A c, v = .slice A L.length c ∧ L.length ≤ c ∧ RdQ q w A L.length (I64 (fnL L)) := by
  obtain ⟨A, c, rfl, hc, hr⟩ := h.rd (by omega) inL_len
  refine ⟨A, c, rfl, hc, fun hn => ?_⟩
  obtain ⟨b, o, rfl, hb, hcell⟩ := rdi_rd hr hn
  exact ⟨b, o, rfl, by have := (h.lt (g := b) rfl).1; omega, hb, hcell⟩
theorem RdQ.nil {q : Nat} {w : World} {A : Option Addr} {V : Nat → Value} : RdQ q w A 0 V := fun h => absurd h (by omega)
/-- What 'flags' leaves, whether the reader had failed or not. -/
def RfFlU (q : Nat) (A : Option Addr) (n c : Nat) (f : Nat → Int) (m : Nat) (p E : Int) (w : World) (e : Ending) (w' : World) : Prop :=
  ∃ v L p' E', e = .returned v ∧ OwnI w' w.heap.size v L ∧ Row w' q 3 (RdrF A n c p' E') ∧ Nigh q w w' ∧ L.length ≤ 4096 ∧ ((E ≠ 0 ∧ E' = E) ∨ (E = 0 ∧ ∀ t : Nat, p = (t : Int) → E' = (flGo f n m m t).e ∧ (E' = 0 → L = (flGo f n m m t).L ∧ p' = ((flGo f n m m t).p : Int))))
theorem rf_flagsU (q B : Nat) (A : Option Addr) (n c : Nat) (f : Nat → Int) (m : Nat) (p E : Int) (w : World) (hR : Row w q 3 (RdrF A n c p E)) (h : Rd w B A n (U8 f)) (hB : B ≤ q) (hf : ∀ j, j < n → 0 ≤ f j ∧ f j ≤ 255) (hp : E = 0 → ∃ t : Nat, p = (t : Int) ∧ t ≤ n) (hn : n ≤ 140737488355328) (hm : m ≤ 4096) :
    Calls Try.prog 47 #[.pointer (some ⟨q, 0, none⟩), .int .i64 (m : Int)] w (RfFlU q A n c f m p E w) := by
  by_cases h0 : E = 0
  · subst h0
    obtain ⟨t, rfl, ht⟩ := hp rfl
    refine (rf_flags7 q B A n c f t m w hR h hB hf ht hn hm).mono ?_
    rintro e w' ⟨v, L, p', rfl, hO, hR', hN, hT, hL⟩
    exact ⟨v, L, p', _, rfl, hO, hR', hN, hL, .inr ⟨rfl, fun t' ht' => (by obtain rfl : t = t' := (by omega); exact ⟨rfl, hT⟩)⟩⟩
  · refine (rf_flags7_no q A n c p E m w hR h0).mono ?_
    rintro e w' ⟨rfl, rfl⟩
    exact ⟨_, [], p, E, rfl, OwnG.nil _ _ _ _ _, hR, Nigh.refl _ _, by simp, .inl ⟨h0, rfl⟩⟩
/-- What 'steps' leaves, whether the reader had failed or not. -/
def RfStU (q : Nat) (A : Option Addr) (n c : Nat) (f : Nat → Int) (is sm : Int) (L : List Int) (p E : Int) (w : World) (e : Ending) (w' : World) : Prop :=
  ∃ v X p' E', e = .returned v ∧ OwnI w' w.heap.size v X ∧ Row w' q 3 (RdrF A n c p' E') ∧ Nigh q w w' ∧ ((E ≠ 0 ∧ E' = E) ∨ (E = 0 ∧ ∀ t : Nat, p = (t : Int) → E' = (plGo f n is sm L 0 t).e ∧ (E' = 0 → X = (plGo f n is sm L 0 t).L ∧ p' = ((plGo f n is sm L 0 t).p : Int))))

theorem rf_stepsU2 (q B : Nat) (A : Option Addr) (n c : Nat) (f : Nat → Int) (p E : Int) (D : Option Addr) (m d : Nat) (L : List Int) (w : World) (hR : Row w q 3 (RdrF A n c p E)) (h : Rd w B A n (U8 f)) (hB : B ≤ q) (hf : ∀ j, j < n → 0 ≤ f j ∧ f j ≤ 255) (hp : E = 0 → Bytes L ∧ ∃ t : Nat, p = (t : Int) ∧ t ≤ n) (hn : n ≤ 140737488355328) (hg : RdQ q w D m (I64 (fnL L))) (hm : m = L.length) (hm4 : m ≤ 4096) :
    Calls Try.prog 48 #[.pointer (some ⟨q, 0, none⟩), .slice D m d, .int .i64 2, .int .i64 16] w (RfStU q A n c f 2 16 L p E w) := by
  by_cases h0 : E = 0
  · subst h0
    obtain ⟨hb, t, rfl, ht⟩ := hp rfl
    refine (rf_steps2 q B A n c f t D m d L w hR h hB hf ht hn hg hm hb hm4).mono ?_
    rintro e w' ⟨v, X, p', rfl, hO, hR', hN, hT⟩
    exact ⟨v, X, p', _, rfl, hO, hR', hN, .inr ⟨rfl, fun t' ht' => (by obtain rfl : t = t' := (by omega); exact ⟨rfl, hT⟩)⟩⟩
  · refine (rf_steps_no2 q A n c p E D m d L w hR h0 hg hm4).mono ?_
    rintro e w' ⟨rfl, ⟨j, rfl⟩⟩
    exact ⟨_, [], p, E, rfl, OwnG.nil _ _ _ _ _, hR.drewN j, (Nigh.refl q w).drewN j, .inl ⟨h0, rfl⟩⟩

theorem rf_stepsU4 (q B : Nat) (A : Option Addr) (n c : Nat) (f : Nat → Int) (p E : Int) (D : Option Addr) (m d : Nat) (L : List Int) (w : World) (hR : Row w q 3 (RdrF A n c p E)) (h : Rd w B A n (U8 f)) (hB : B ≤ q) (hf : ∀ j, j < n → 0 ≤ f j ∧ f j ≤ 255) (hp : E = 0 → Bytes L ∧ ∃ t : Nat, p = (t : Int) ∧ t ≤ n) (hn : n ≤ 140737488355328) (hg : RdQ q w D m (I64 (fnL L))) (hm : m = L.length) (hm4 : m ≤ 4096) :
    Calls Try.prog 48 #[.pointer (some ⟨q, 0, none⟩), .slice D m d, .int .i64 4, .int .i64 32] w (RfStU q A n c f 4 32 L p E w) := by
  by_cases h0 : E = 0
  · subst h0
    obtain ⟨hb, t, rfl, ht⟩ := hp rfl
    refine (rf_steps4 q B A n c f t D m d L w hR h hB hf ht hn hg hm hb hm4).mono ?_
    rintro e w' ⟨v, X, p', rfl, hO, hR', hN, hT⟩
    exact ⟨v, X, p', _, rfl, hO, hR', hN, .inr ⟨rfl, fun t' ht' => (by obtain rfl : t = t' := (by omega); exact ⟨rfl, hT⟩)⟩⟩
  · refine (rf_steps_no4 q A n c p E D m d L w hR h0 hg hm4).mono ?_
    rintro e w' ⟨rfl, ⟨j, rfl⟩⟩
    exact ⟨_, [], p, E, rfl, OwnG.nil _ _ _ _ _, hR.drewN j, (Nigh.refl q w).drewN j, .inl ⟨h0, rfl⟩⟩

/-- The answer, where the code has been read: X8 is it. -/
def At8 (f : Nat → Int) (n k m zz : Nat) (X8 : List Int) (p E : Int) : Prop :=
  (E ≠ 0 ∧ rdAns7 f n = no7 E) ∨ (E = 0 ∧ X8 = (List.range zz).map (fun j => f (12 + 2 * k + j)) ∧ ∃ t : Nat, p = (t : Int) ∧ t ≤ n ∧ rdAns7 f n = if (flGo f n m m t).e ≠ 0 then no7 (flGo f n m m t).e
    else if (plGo f n 2 16 (flGo f n m m t).L 0 (flGo f n m m t).p).e ≠ 0 then no7 (plGo f n 2 16 (flGo f n m m t).L 0 (flGo f n m m t).p).e
    else if (plGo f n 4 32 (flGo f n m m t).L 0 (plGo f n 2 16 (flGo f n m m t).L 0 (flGo f n m m t).p).p).e ≠ 0 then no7 (plGo f n 4 32 (flGo f n m m t).L 0 (plGo f n 2 16 (flGo f n m m t).L 0 (flGo f n m m t).p).p).e
    else ⟨0, (List.range k).map (en7 f), 12 + 2 * k, zz, (flGo f n m m t).L, (plGo f n 2 16 (flGo f n m m t).L 0 (flGo f n m m t).p).L, (plGo f n 4 32 (flGo f n m m t).L 0 (plGo f n 2 16 (flGo f n m m t).L 0 (flGo f n m m t).p).p).L⟩)
/-- .. the flags too. -/
def At9 (f : Nat → Int) (n k m zz : Nat) (X8 L : List Int) (p E : Int) : Prop :=
  (E ≠ 0 ∧ rdAns7 f n = no7 E) ∨ (E = 0 ∧ X8 = (List.range zz).map (fun j => f (12 + 2 * k + j)) ∧ L.length = m ∧ Bytes L ∧ ∃ t : Nat, p = (t : Int) ∧ t ≤ n ∧ rdAns7 f n = if (plGo f n 2 16 L 0 t).e ≠ 0 then no7 (plGo f n 2 16 L 0 t).e
    else if (plGo f n 4 32 L 0 (plGo f n 2 16 L 0 t).p).e ≠ 0 then no7 (plGo f n 4 32 L 0 (plGo f n 2 16 L 0 t).p).e
    else ⟨0, (List.range k).map (en7 f), 12 + 2 * k, zz, L, (plGo f n 2 16 L 0 t).L, (plGo f n 4 32 L 0 (plGo f n 2 16 L 0 t).p).L⟩)
/-- .. and all x. -/
def AtX (f : Nat → Int) (n k m zz : Nat) (X8 L X : List Int) (p E : Int) : Prop :=
  (E ≠ 0 ∧ rdAns7 f n = no7 E) ∨ (E = 0 ∧ X8 = (List.range zz).map (fun j => f (12 + 2 * k + j)) ∧ L.length = m ∧ Bytes L ∧ X.length = m ∧ ∃ t : Nat, p = (t : Int) ∧ t ≤ n ∧ rdAns7 f n = if (plGo f n 4 32 L 0 t).e ≠ 0 then no7 (plGo f n 4 32 L 0 t).e
    else ⟨0, (List.range k).map (en7 f), 12 + 2 * k, zz, L, X, (plGo f n 4 32 L 0 t).L⟩)
/-- .. and all y. -/
def AtY (f : Nat → Int) (n k m zz : Nat) (X8 L X Y : List Int) (E : Int) : Prop :=
  (E ≠ 0 ∧ rdAns7 f n = no7 E) ∨ (E = 0 ∧ X8 = (List.range zz).map (fun j => f (12 + 2 * k + j)) ∧ L.length = m ∧ Bytes L ∧ X.length = m ∧ Y.length = m ∧ rdAns7 f n = ⟨0, (List.range k).map (en7 f), 12 + 2 * k, zz, L, X, Y⟩)
section
variable {f : Nat → Int} {n k m zz : Nat} {X8 L X Y : List Int} {p p' E E' : Int}
theorem At8.flags (hf : ∀ j, j < n → 0 ≤ f j ∧ f j ≤ 255) (h : At8 f n k m zz X8 p E) (hs : (E ≠ 0 ∧ E' = E) ∨ (E = 0 ∧ ∀ t : Nat, p = (t : Int) → E' = (flGo f n m m t).e ∧ (E' = 0 → L = (flGo f n m m t).L ∧ p' = ((flGo f n m m t).p : Int)))) : At9 f n k m zz X8 L p' E' := by
  rcases h with ⟨h0, h1⟩ | ⟨h0, h1, t, rfl, ht, ha⟩
  · rcases hs with ⟨_, rfl⟩ | ⟨e, _⟩
    · exact .inl ⟨h0, h1⟩
    · exact absurd e h0
  · rcases hs with ⟨e, _⟩ | ⟨_, hs⟩
    · exact absurd h0 e
    · obtain ⟨s1, s2⟩ := hs t rfl
      by_cases hE : E' = 0
      · obtain ⟨rfl, rfl⟩ := s2 hE
        rw [hE] at s1
        rw [if_neg (by simp [← s1])] at ha
        obtain ⟨l1, l2⟩ := fl_le f n hf m m t ht s1.symm
        exact .inr ⟨hE, h1, fl_len f n (fun j hj => (hf j hj).1) m m t (Nat.le_refl _) s1.symm, l2, _, rfl, l1, ha⟩
      · rw [← s1, if_pos hE] at ha
        exact .inl ⟨hE, ha⟩
theorem At9.xs (h : At9 f n k m zz X8 L p E) (hs : (E ≠ 0 ∧ E' = E) ∨ (E = 0 ∧ ∀ t : Nat, p = (t : Int) → E' = (plGo f n 2 16 L 0 t).e ∧ (E' = 0 → X = (plGo f n 2 16 L 0 t).L ∧ p' = ((plGo f n 2 16 L 0 t).p : Int)))) : AtX f n k m zz X8 L X p' E' := by
  rcases h with ⟨h0, h1⟩ | ⟨h0, h1, hl, hb, t, rfl, ht, ha⟩
  · rcases hs with ⟨_, rfl⟩ | ⟨e, _⟩
    · exact .inl ⟨h0, h1⟩
    · exact absurd e h0
  · rcases hs with ⟨e, _⟩ | ⟨_, hs⟩
    · exact absurd h0 e
    · obtain ⟨s1, s2⟩ := hs t rfl
      by_cases hE : E' = 0
      · obtain ⟨rfl, rfl⟩ := s2 hE
        rw [hE] at s1
        rw [if_neg (by simp [← s1])] at ha
        exact .inr ⟨hE, h1, hl, hb, (pl_len f n 2 16 L 0 t s1.symm).trans hl, _, rfl, pl_le f n 2 16 L 0 t ht s1.symm, ha⟩
      · rw [← s1, if_pos hE] at ha
        exact .inl ⟨hE, ha⟩
theorem AtX.ys (h : AtX f n k m zz X8 L X p E) (hs : (E ≠ 0 ∧ E' = E) ∨ (E = 0 ∧ ∀ t : Nat, p = (t : Int) → E' = (plGo f n 4 32 L 0 t).e ∧ (E' = 0 → Y = (plGo f n 4 32 L 0 t).L ∧ p' = ((plGo f n 4 32 L 0 t).p : Int)))) : AtY f n k m zz X8 L X Y E' := by
  rcases h with ⟨h0, h1⟩ | ⟨h0, h1, hl, hb, hx, t, rfl, ht, ha⟩
  · rcases hs with ⟨_, rfl⟩ | ⟨e, _⟩
    · exact .inl ⟨h0, h1⟩
    · exact absurd e h0
  · rcases hs with ⟨e, _⟩ | ⟨_, hs⟩
    · exact absurd h0 e
    · obtain ⟨s1, s2⟩ := hs t rfl
      by_cases hE : E' = 0
      · obtain ⟨rfl, rfl⟩ := s2 hE
        rw [hE] at s1
        rw [if_neg (by simp [← s1])] at ha
        exact .inr ⟨hE, h1, hl, hb, hx, (pl_len f n 4 32 L 0 t s1.symm).trans hl, ha⟩
      · rw [← s1, if_pos hE] at ha
        exact .inl ⟨hE, ha⟩
theorem at8_of (E4 : rdAns7 f n = rdB7 f n k m) (h : (E = 0 ∧ p = ((12 + 2 * k + zz : Nat) : Int) ∧ 12 + 2 * k + zz ≤ n ∧ numAt f (10 + 2 * k) 2 = (zz : Int) ∧ X8 = (List.range zz).map (fun j => f (12 + 2 * k + j))) ∨ (E = 3 ∧ (n < 12 + 2 * k ∨ (12 + 2 * k ≤ n ∧ numAt f (10 + 2 * k) 2 = (zz : Int) ∧ n < 12 + 2 * k + zz)))) : At8 f n k m zz X8 p E := by
  rcases h with ⟨h0, h1, h2, h3, h4⟩ | ⟨h0, h1⟩
  · refine .inr ⟨h0, h4, _, h1, h2, ?_⟩
    rw [E4]
    unfold rdB7
    rw [if_neg (by omega), h3, if_neg (by omega), Int.toNat_natCast]
    unfold knGo
    by_cases a1 : (flGo f n m m (12 + 2 * k + zz)).e ≠ 0
    · rw [if_pos a1, if_pos a1, if_pos a1]
    · rw [if_neg a1, if_neg a1]
      by_cases a2 : (plGo f n 2 16 (flGo f n m m (12 + 2 * k + zz)).L 0 (flGo f n m m (12 + 2 * k + zz)).p).e ≠ 0
      · rw [if_pos a2, if_pos a2, if_pos a2]
      · rw [if_neg a2, if_neg a2]
        by_cases a3 : (plGo f n 4 32 (flGo f n m m (12 + 2 * k + zz)).L 0 (plGo f n 2 16 (flGo f n m m (12 + 2 * k + zz)).L 0 (flGo f n m m (12 + 2 * k + zz)).p).p).e ≠ 0
        · rw [if_pos a3, if_pos a3, if_pos a3]
        · rw [if_neg a3, if_neg a3, if_neg (by simp)]
  · refine .inl ⟨by omega, ?_⟩
    rw [E4, h0]
    unfold rdB7
    rcases h1 with h1 | ⟨h1, h2, h3⟩
    · rw [if_pos h1]
    · rw [if_neg (by omega), h2, if_pos (by omega)]
theorem At8.at_ (h : At8 f n k m zz X8 p E) : E = 0 → ∃ t : Nat, p = (t : Int) ∧ t ≤ n := fun e => by
  rcases h with ⟨h0, _⟩ | ⟨_, _, t, h1, h2, _⟩
  · exact absurd e h0
  · exact ⟨t, h1, h2⟩
theorem At9.at_ (h : At9 f n k m zz X8 L p E) : E = 0 → Bytes L ∧ ∃ t : Nat, p = (t : Int) ∧ t ≤ n := fun e => by
  rcases h with ⟨h0, _⟩ | ⟨_, _, _, hb, t, h1, h2, _⟩
  · exact absurd e h0
  · exact ⟨hb, t, h1, h2⟩
theorem AtX.at_ (h : AtX f n k m zz X8 L X p E) : E = 0 → Bytes L ∧ ∃ t : Nat, p = (t : Int) ∧ t ≤ n := fun e => by
  rcases h with ⟨h0, _⟩ | ⟨_, _, _, hb, _, t, h1, h2, _⟩
  · exact absurd e h0
  · exact ⟨hb, t, h1, h2⟩
end
theorem own_rdq2 {q base n c : Nat} {w : World} {A : Option Addr} {L : List Int} (h : OwnI w base (.slice A n c) L) (hq : q < base) (hn : n = L.length) : RdQ q w A n (I64 (fnL L)) := by
  obtain ⟨A', c', e, _, hr⟩ := own_rdq h hq
  injection e with e1 e2 e3
  subst e1 hn
  exact hr
theorem ends_seg {f : Nat → Int} {k m : Nat} (hm : en7 f (k - 1) + 1 = (m : Int)) (hord : ∀ t, t < k → 0 < t → en7 f (t - 1) < en7 f t) (hrange : ∀ i, i < k → 0 ≤ en7 f i ∧ en7 f i ≤ 65535) : ∀ j, j < k → 0 ≤ st7 (en7 f) j ∧ st7 (en7 f) j ≤ en7 f j ∧ en7 f j + 1 ≤ (m : Int) := by
  have hbetw : ∀ d j, j + d = k - 1 → 0 < k → en7 f j + d ≤ en7 f (k - 1) := by
    intro d
    induction d with
    | zero => intro j hj h0; rw [show j = k - 1 by omega]; simp
    | succ d ih =>
      intro j hj h0
      have h1 := ih (j + 1) (by omega) h0
      have h2 := hord (j + 1) (by omega) (by omega)
      rw [Nat.add_sub_cancel] at h2
      omega
  intro j hj
  have h1 := hbetw (k - 1 - j) j (by omega) (by omega)
  have h2 := hrange j hj
  unfold st7
  by_cases hj0 : j = 0
  · rw [if_pos hj0]; omega
  · rw [if_neg hj0]
    have h3 := hord j hj (by omega)
    have h4 := hrange (j - 1) (by omega)
    omega
theorem lay7_of {f : Nat → Int} {n k s zz m : Nat} {L X Y : List Int} (h : rdAns7 f n = ⟨0, (List.range k).map (en7 f), s, zz, L, X, Y⟩) (hl : L.length = m) (hx : X.length = m) (hy : Y.length = m) : lay7 (rdAns7 f n) = (List.range k).map (seg7 (en7 f) (ktL m (fnL X) (fnL Y) (fun j => decide (Has8 (fnL L j) 1)))) := by
  rw [h]
  unfold lay7
  simp only
  have hzk := zip7_kt X Y L (by omega) (by omega)
  rw [hx] at hzk
  rw [← hzk, cutE7_all2]
theorem take_drop_snoc {α : Type} {K : List α} {s t : Nat} {x : α} (hx : K[t]? = some x) (hs : s ≤ t) : (K.take (t + 1)).drop s = (K.take t).drop s ++ [x] := by
  have ht : t < K.length := by
    rcases Nat.lt_or_ge t K.length with h | h
    · exact h
    · rw [List.getElem?_eq_none h] at hx; cases hx
  rw [List.take_succ_eq_append_getElem ht, List.drop_append_of_le_length (by rw [List.length_take]; omega)]
  rw [List.getElem?_eq_getElem ht] at hx
  injection hx with hx
  rw [hx]
theorem cell_alloc7 {w : World} {o : Obj} {b p : Nat} (h : b < w.heap.size) : (w.alloc o).cell? ⟨b, p, none⟩ = w.cell? ⟨b, p, none⟩ := World.cell?_alloc_lt w o ⟨b, p, none⟩ h
theorem cell_drew7 (w : World) (p : Addr) : w.drew.cell? p = w.cell? p := rfl
theorem grown_cell7 {w w7 : World} {o : Obj} {row : Option Nat} {b : Nat} (hb : b < w.heap.size) (hg : ((w.alloc o).drew).grownBy w7 row) (hr : row ≠ some b) (i : Nat) : w7.cell? ⟨b, i, none⟩ = w.cell? ⟨b, i, none⟩ := by
  have e := hg.block b (by simp [World.drew]; omega) (fun x => hr x.symm)
  have h1 : w7.cell? ⟨b, i, none⟩ = (w.alloc o).cell? ⟨b, i, none⟩ := by simp only [World.cell?, e]; rfl
  exact h1.trans (cell_alloc7 hb)
theorem Nigh.setNewIn {q : Nat} {w w' : World} (h : Nigh q w w') (o : Nat) (v : Value) : Nigh q w (w'.setCell ⟨q, o, none⟩ v) := h.set o v
end Go.Proofs.Ytcjjcjpkmjbfkaa
