/-
  Layer 7: the reference's steps, walked.
-/
import Derived.Test.YtpplnapfpoloiaaSjE
import Derived.Test.YtpplnapfpoloiaaSiN
namespace Go.Proofs.Ytpplnapfpoloiaa
open Go.RowKit Go.ChangeShapes Go.WideShapes Go.Deep
set_option linter.unusedVariables false
set_option linter.unusedSimpArgs false

/-- A slice that reads so, not in the block q. -/
def RdQ (q : Nat) (w : World) (A : Option Addr) (n : Nat) (V : Nat → Value) : Prop :=
  0 < n → ∃ b o, A = some ⟨b, o, none⟩ ∧ b ≠ q ∧ b < w.heap.size ∧ ∀ j, j < n → w.cell? ⟨b, o + j, none⟩ = some (V j)
theorem RdQ.near {q n : Nat} {w w' : World} {A : Option Addr} {V : Nat → Value} (h : RdQ q w A n V) (k : Near q w w') : RdQ q w' A n V := fun hn => by
  obtain ⟨b, o, rfl, h1, h2, h3⟩ := h hn
  refine ⟨b, o, rfl, h1, Nat.lt_of_lt_of_le h2 k.1.1, fun j hj => ?_⟩
  have e := k.1.2 b h2 h1
  rw [← h3 j hj]
  simp only [World.cell?, e]
set_option maxRecDepth 100000 in
set_option maxHeartbeats 8000000 in
theorem rf_u7_no (q : Nat) (A : Option Addr) (n c : Nat) (p E m : Int) (w : World) (hR : Row w q 3 (RdrF A n c p E)) (h0 : E ≠ 0) :
    Calls Try.prog 78 #[.pointer (some ⟨q, 0, none⟩), .int .i64 m] w fun e w' => e = .returned (.int .i64 0) ∧ w' = w := by
  obtain ⟨c0, c1, c2, f1, f2, hq⟩ := rdr_cells hR
  have d0 : (E == 0) = false := by simpa using h0
  clear hR
  go_enter Try.func78, Try.ntmps78
  go_wp2_with fail
  go_ret
  exact ⟨rfl, rfl⟩
set_option maxRecDepth 100000 in
set_option maxHeartbeats 8000000 in
theorem rf_s7_no (q : Nat) (A : Option Addr) (n c : Nat) (p E : Int) (w : World) (hR : Row w q 3 (RdrF A n c p E)) (h0 : E ≠ 0) :
    Calls Try.prog 77 #[.pointer (some ⟨q, 0, none⟩)] w fun e w' => e = .returned (.int .i64 0) ∧ w' = w := by
  have hC := Lib.hid (rf_u7_no q A n c p E 2 w hR h0)
  go_enter Try.func77, Try.ntmps77
  go_wp2_with (go_at_call 78; (with_reducible refine hC.out.mono ?_); rintro e w2 ⟨rfl, hw⟩; have hw' := hw.symm; subst hw'; clear hw)
  exact bodyPost_ret (v := .int .i64 0) (by simp [results, Try.results77, go_sem]) rfl ⟨rfl, rfl⟩

theorem pl_cases (f : Nat → Int) (n : Nat) (is sm g : Int) (r : List Int) (v : Int) (p : Nat) :
    (n < p + sw7 is sm g ∧ (plGo f n is sm (g :: r) v p).e = 3) ∨ (p + sw7 is sm g ≤ n ∧ ¬ Sh (v + sv7 f is sm g p) ∧ (plGo f n is sm (g :: r) v p).e = 6) ∨
    (p + sw7 is sm g ≤ n ∧ Sh (v + sv7 f is sm g p) ∧ (plGo f n is sm (g :: r) v p).e = (plGo f n is sm r (v + sv7 f is sm g p) (p + sw7 is sm g)).e ∧ ((plGo f n is sm r (v + sv7 f is sm g p) (p + sw7 is sm g)).e = 0 → (plGo f n is sm (g :: r) v p).L = (v + sv7 f is sm g p) :: (plGo f n is sm r (v + sv7 f is sm g p) (p + sw7 is sm g)).L ∧ (plGo f n is sm (g :: r) v p).p = (plGo f n is sm r (v + sv7 f is sm g p) (p + sw7 is sm g)).p)) := by
  rw [pl_cons]
  by_cases h1 : n < p + sw7 is sm g
  · rw [if_pos h1]; exact .inl ⟨h1, rfl⟩
  · by_cases h2 : ¬ Sh (v + sv7 f is sm g p)
    · rw [if_neg h1, if_pos h2]; exact .inr (.inl ⟨by omega, h2, rfl⟩)
    · refine .inr (.inr ⟨by omega, Decidable.not_not.1 h2, ?_⟩)
      rw [if_neg h1, if_neg h2]
      by_cases h3 : (plGo f n is sm r (v + sv7 f is sm g p) (p + sw7 is sm g)).e ≠ 0
      · rw [if_pos h3]; exact ⟨rfl, fun e => absurd e h3⟩
      · rw [if_neg h3]; exact ⟨(Decidable.not_not.1 h3).symm, fun _ => ⟨rfl, rfl⟩⟩
theorem sgn2_range {f : Nat → Int} {n p : Nat} (hf : ∀ j, j < n → 0 ≤ f j ∧ f j ≤ 255) (h : p + 2 ≤ n) : -32768 ≤ sgn 2 (numAt f p 2) ∧ sgn 2 (numAt f p 2) ≤ 32767 := by
  have hr := numAt_range (f := f) (p := p) (k := 2) (fun j hj => hf j (by omega))
  unfold sgn; simp only [Int.reducePow] at hr ⊢; split <;> omega
theorem has8_b (g b : Int) {s : Bool} (h : decide (Has8 g b) = s) : (g / b % 2 == 1) = s := by
  rw [← h]; unfold Has8; by_cases e : g / b % 2 = 1 <;> simp [e]

set_option maxRecDepth 100000 in
set_option maxHeartbeats 16000000 in
theorem rf_steps_no2 (q : Nat) (A : Option Addr) (n c : Nat) (p E : Int) (D : Option Addr) (m d : Nat) (G : List Int) (w : World) (hR : Row w q 3 (RdrF A n c p E)) (h0 : E ≠ 0) (hg : RdQ q w D m (I64 (fnL G))) (hm4 : m ≤ 4096) :
    Calls Try.prog 80 #[.pointer (some ⟨q, 0, none⟩), .slice D m d, .int .i64 2, .int .i64 16] w fun e w' => e = .returned (.slice none 0 0) ∧ (∃ k, w' = w.drewN k) := by
  have d0 : (E == 0) = false := by simpa using h0
  have HU := Lib.hid (fun (k : Nat) => rf_u7_no q A n c p E 1 (w.drewN k) (hR.drewN k) h0)
  have HS := Lib.hid (fun (k : Nat) => rf_s7_no q A n c p E (w.drewN k) (hR.drewN k) h0)
  by_cases hm : m = 0
  · subst hm
    clear hg hR
    go_enter Try.func80, Try.ntmps80
    go_wp2_with fail
    go_loopw [9, 10, 17] (fun v v10 y wr => v = .slice none 0 0 ∧ v10 = .int .i64 0 ∧ y = .int .i64 0 ∧ Hid (wr = w)) (fun _ _ _ _ => 0)
    case atStart => exact ⟨rfl, rfl, rfl, Lib.hid rfl⟩
    case round =>
      obtain ⟨rfl, rfl, rfl, hw⟩ := hrel
      have hw' := hw.out
      subst hw'
      clear hw
      go_wp2_with fail
      go_ret
      exact ⟨rfl, 0, rfl⟩
  · obtain ⟨gb, go, rfl, gq, gl, gc⟩ := hg (by omega)
    have gcj := gc 0 (by omega)
    simp only [I64, IntRow, Nat.add_zero] at gcj
    have hmI : (0 : Int) < (m : Int) := by omega
    obtain ⟨c0, c1, c2, f1, f2, hq⟩ := rdr_cells hR
    generalize fnL G 0 = g at *
    clear hg gc hR
    have d1 : (E != 0) = true := by simpa using h0
    · go_enter Try.func80, Try.ntmps80
      go_wp2_with fail
      go_loopw [9, 10, 17] (fun o9 v10 y wr => o9 = .slice none 0 0 ∧ v10 = .int .i64 0 ∧ y = .int .i64 0 ∧ Hid (wr = w)) (fun _ _ _ _ => 0)
      case atStart => exact ⟨rfl, rfl, rfl, Lib.hid rfl⟩
      case round =>
        obtain ⟨rfl, rfl, rfl, hw⟩ := hrel
        have hw' := hw.out
        subst hw'
        clear hw
        go_wp2_with fail
        go_quiet (fail)
        go_wp2_with (first | (go_at_call 78; (with_reducible refine (HU.out nq).mono ?_); rintro e w2 ⟨rfl, hw⟩; have hw' := hw.symm; subst hw'; clear hw) | (go_at_call 77; (with_reducible refine (HS.out nq).mono ?_); rintro e w2 ⟨rfl, hw⟩; have hw' := hw.symm; subst hw'; clear hw))
        all_goals go_ret
        all_goals exact ⟨rfl, nq, rfl⟩

set_option maxRecDepth 100000 in
set_option maxHeartbeats 64000000 in
theorem rf_steps2 (q B : Nat) (A : Option Addr) (n c : Nat) (f : Nat → Int) (p : Nat) (D : Option Addr) (m d : Nat) (G : List Int) (w : World) (hR : Row w q 3 (RdrF A n c (p : Int) 0)) (h : Rd w B A n (U8 f)) (hB : B ≤ q) (hf : ∀ j, j < n → 0 ≤ f j ∧ f j ≤ 255) (hp : p ≤ n) (hn : n ≤ 140737488355328) (hg : RdQ q w D m (I64 (fnL G))) (hm : m = G.length) (hG : Bytes G) (hm4 : m ≤ 4096) :
    Calls Try.prog 80 #[.pointer (some ⟨q, 0, none⟩), .slice D m d, .int .i64 2, .int .i64 16] w (RfSt q A n c (plGo f n 2 16 G 0 p) w) := by
  have hq := hR.2.2
  have hm5 : (m : Int) ≤ 4096 := by omega
  obtain ⟨T, hT⟩ : ∃ T, T = plGo f n 2 16 G 0 p := ⟨_, rfl⟩
  have H0 := Lib.hid (show T.e = (plGo f n 2 16 (G.drop 0) 0 p).e ∧ (T.e = 0 → T.L = [] ++ (plGo f n 2 16 (G.drop 0) 0 p).L ∧ T.p = (plGo f n 2 16 (G.drop 0) 0 p).p) from ⟨by rw [hT]; rfl, fun _ => ⟨by rw [hT]; rfl, by rw [hT]; rfl⟩⟩)
  rw [← hT]
  have HG := Lib.hid hG
  have HM := Lib.hid hm
  have HF := Lib.hid hf
  have HR0 := Lib.hid hR
  clear hT hG hm hf hR
  go_enter Try.func80, Try.ntmps80
  go_wp2_with fail
  go_loopw [9, 10, 17] (fun ov vv y wr => ∃ (j : Nat) (X : List Int) (v : Int) (t : Nat), j ≤ m ∧ X.length = j ∧ vv = .int .i64 v ∧ y = .int .i64 (j : Int) ∧ t ≤ n ∧ (-32768 ≤ v ∧ v ≤ 32767) ∧ OwnI wr w.heap.size ov X ∧ Near q w wr ∧ Row wr q 3 (RdrF A n c (t : Int) 0) ∧ Hid (T.e = (plGo f n 2 16 (G.drop j) v t).e ∧ (T.e = 0 → T.L = X ++ (plGo f n 2 16 (G.drop j) v t).L ∧ T.p = (plGo f n 2 16 (G.drop j) v t).p))) (fun _ _ y _ => m - (intOf y).toNat)
  case atStart => exact ⟨0, [], 0, p, by omega, rfl, rfl, rfl, hp, by omega, OwnG.nil _ _ _ _ _, Near.refl q w, HR0.out, H0⟩
  case round =>
    obtain ⟨j, X, v, t, hj, hX, rfl, rfl, ht, hv, hO, hN, hR, hT⟩ := hrel
    obtain ⟨A9, c9, rfl, hc9, hr9⟩ := hO.rd (by omega) inL_len
    rw [hX] at hc9 hO ⊢
    have hRb := h.near hN hB hq
    obtain ⟨hv1, hv2⟩ := hv
    clear H0 HR0
    by_cases hjm : j < m
    · have hjm' : (j : Int) < (m : Int) := by omega
      have hjG : j < G.length := by rw [← HM.out]; exact hjm
      have hT1 := hT.out
      have hdrop : G.drop j = fnL G j :: G.drop (j + 1) := by
        rw [List.drop_eq_getElem_cons hjG]
        congr 1
        have := fnL_get hjG
        rw [List.getElem?_eq_getElem hjG] at this
        exact Option.some.inj this
      rw [hdrop] at hT1
      have hgr := HG.out (fnL G j) (List.mem_of_getElem? (fnL_get hjG))
      obtain ⟨gb, go, rfl, gq, gl, gc⟩ := (hg.near hN) (by omega)
      have gcj : wr.cell? ⟨gb, go + j, none⟩ = some (.int .i64 (fnL G j)) := gc j hjm
      obtain ⟨g, hgg⟩ : ∃ g, g = fnL G j := ⟨_, rfl⟩
      rw [← hgg] at gcj hgr hT1
      obtain ⟨s, hs⟩ : ∃ s, decide (Has8 g 2) = s := ⟨_, rfl⟩
      obtain ⟨u, hu⟩ : ∃ u, decide (Has8 g 16) = u := ⟨_, rfl⟩
      have e1 : IntKind.i64.wrap (g.tdiv 2) = g / 2 := by rw [Int.tdiv_eq_ediv_of_nonneg hgr.1, IntKind.wrap_i64]; omega
      have e2 : IntKind.i64.wrap ((g / 2).tmod 2) = g / 2 % 2 := by rw [Int.tmod_eq_emod_of_nonneg (by omega), IntKind.wrap_i64]; omega
      have e3 := has8_b g 2 hs
      have e7 : (g / 2).tmod 2 = g / 2 % 2 := Int.tmod_eq_emod_of_nonneg (by omega)
      have e8 : (g / 16).tmod 2 = g / 16 % 2 := Int.tmod_eq_emod_of_nonneg (by omega)
      have e4 : IntKind.i64.wrap (g.tdiv 16) = g / 16 := by rw [Int.tdiv_eq_ediv_of_nonneg hgr.1, IntKind.wrap_i64]; omega
      have e5 : IntKind.i64.wrap ((g / 16).tmod 2) = g / 16 % 2 := by rw [Int.tmod_eq_emod_of_nonneg (by omega), IntKind.wrap_i64]; omega
      have e6 := has8_b g 16 hu
      have hC := pl_cases f n 2 16 g (G.drop (j + 1)) v t
      rw [swB_is, svB_is, hs, hu, ← hT1.1] at hC
      have HR := Lib.hid hR
      have hT2 := hT1.2
      clear hT hdrop hgg hs hu hg gc hR hT1 hgr hjG hr9
      rcases hC with ⟨a1, a2⟩ | ⟨a1, a2, a4⟩ | ⟨a1, a2, a4, a5⟩
      · have HTe := Lib.hid a2
        clear a2 hT2
        cases s <;> cases u
        · -- ff
          have HU := Lib.hid (fun (k : Nat) => rf_s2_out q B A n c f t (wr.drewN k) (HR.out.drewN k) (hRb.drewN k) hB HF.out ht (by simpa [swB] using a1) hn)
          clear a1
          go_wp2_with fail
          go_quiet (fail)
          go_wp2_with (go_at_call 77; (with_reducible refine (HU.out nq).mono ?_); rintro e w4 ⟨rfl, ⟨p4, hR4⟩, hN4⟩; obtain ⟨k0, k1, k2, k3, k4, k5⟩ := rdr_cells hR4)
          go_ret
          exact ⟨_, [], p4, rfl, OwnG.nil _ _ _ _ _, by rw [HTe.out]; exact hR4, (hN.drewN nq).trans hN4, fun e => by rw [HTe.out] at e; omega⟩
        · exact absurd a1 (by simp [swB]; omega)
        · -- tf
          have HU := Lib.hid (fun (k : Nat) => rf_u1_out q B A n c f t (wr.drewN k) (HR.out.drewN k) (hRb.drewN k) hB HF.out ht (by simpa [swB] using a1) hn)
          clear a1
          go_wp2_with fail
          go_quiet (fail)
          go_wp2_with (go_at_call 78; (with_reducible refine (HU.out nq).mono ?_); rintro e w4 ⟨rfl, ⟨p4, hR4⟩, hN4⟩; obtain ⟨k0, k1, k2, k3, k4, k5⟩ := rdr_cells hR4)
          go_ret
          exact ⟨_, [], p4, rfl, OwnG.nil _ _ _ _ _, by rw [HTe.out]; exact hR4, (hN.drewN nq).trans hN4, fun e => by rw [HTe.out] at e; omega⟩
        · -- tt
          have HU := Lib.hid (fun (k : Nat) => rf_u1_out q B A n c f t (wr.drewN k) (HR.out.drewN k) (hRb.drewN k) hB HF.out ht (by simpa [swB] using a1) hn)
          clear a1
          go_wp2_with fail
          go_quiet (fail)
          go_wp2_with (go_at_call 78; (with_reducible refine (HU.out nq).mono ?_); rintro e w4 ⟨rfl, ⟨p4, hR4⟩, hN4⟩; obtain ⟨k0, k1, k2, k3, k4, k5⟩ := rdr_cells hR4)
          go_ret
          exact ⟨_, [], p4, rfl, OwnG.nil _ _ _ _ _, by rw [HTe.out]; exact hR4, (hN.drewN nq).trans hN4, fun e => by rw [HTe.out] at e; omega⟩
      · have HTe := Lib.hid a4
        clear a4 hT2
        cases s <;> cases u
        · -- ff
          have HU := Lib.hid (fun (k : Nat) => rf_s2_in q B A n c f t (wr.drewN k) (HR.out.drewN k) (hRb.drewN k) hB HF.out (by simpa [swB] using a1) hn)
          have hzb := sgn2_range HF.out (p := t) (by simpa [swB] using a1)
          have hbad : v + sgn 2 (numAt f t 2) < -32768 ∨ 32767 < v + sgn 2 (numAt f t 2) := by simp only [Sh, svB, if_true, if_false, Bool.false_eq_true] at a2; omega
          generalize sgn 2 (numAt f t 2) = z at *
          clear a1 a2
          (rcases hbad with hbad | hbad) <;> first | (exfalso; omega) | (
            go_wp2_with fail
            go_quiet (fail)
            go_wp2_with (first | (go_at_call 77; (with_reducible refine (HU.out nq).mono ?_); rintro e w4 ⟨rfl, _, hR4, hN4⟩; obtain ⟨k0, k1, k2, k3, k4, k5⟩ := rdr_cells hR4) | (go_at_call 102; (with_reducible refine (rf_fail7 q A n c _ 0 6 _ hR4).mono ?_); rintro e w5 ⟨rfl, hR5, hN5⟩; rw [if_pos rfl] at hR5; obtain ⟨m0, m1, m2, m3, m4, m5⟩ := rdr_cells hR5))
            go_ret
            exact ⟨_, [], _, rfl, OwnG.nil _ _ _ _ _, by rw [HTe.out]; exact hR5, ((hN.drewN nq).trans hN4).trans hN5, fun e => by rw [HTe.out] at e; omega⟩)
        · exact absurd a2 (by simp only [svB, Sh]; simp; omega)
        · -- tf
          have HU := Lib.hid (fun (k : Nat) => rf_u1_in q B A n c f t (wr.drewN k) (HR.out.drewN k) (hRb.drewN k) hB HF.out (by simpa [swB] using a1) hn)
          have hzb := HF.out t (by simp [swB] at a1; omega)
          have hbad : v - f t < -32768 ∨ 32767 < v - f t := by simp only [Sh, svB, if_true, if_false, Bool.false_eq_true] at a2; omega
          generalize f t = z at *
          clear a1 a2
          (rcases hbad with hbad | hbad) <;> first | (exfalso; omega) | (
            go_wp2_with fail
            go_quiet (fail)
            go_wp2_with (first | (go_at_call 78; (with_reducible refine (HU.out nq).mono ?_); rintro e w4 ⟨rfl, hR4, hN4⟩; obtain ⟨k0, k1, k2, k3, k4, k5⟩ := rdr_cells hR4) | (go_at_call 102; (with_reducible refine (rf_fail7 q A n c _ 0 6 _ hR4).mono ?_); rintro e w5 ⟨rfl, hR5, hN5⟩; rw [if_pos rfl] at hR5; obtain ⟨m0, m1, m2, m3, m4, m5⟩ := rdr_cells hR5))
            go_ret
            exact ⟨_, [], _, rfl, OwnG.nil _ _ _ _ _, by rw [HTe.out]; exact hR5, ((hN.drewN nq).trans hN4).trans hN5, fun e => by rw [HTe.out] at e; omega⟩)
        · -- tt
          have HU := Lib.hid (fun (k : Nat) => rf_u1_in q B A n c f t (wr.drewN k) (HR.out.drewN k) (hRb.drewN k) hB HF.out (by simpa [swB] using a1) hn)
          have hzb := HF.out t (by simp [swB] at a1; omega)
          have hbad : v + f t < -32768 ∨ 32767 < v + f t := by simp only [Sh, svB, if_true, if_false, Bool.false_eq_true] at a2; omega
          generalize f t = z at *
          clear a1 a2
          (rcases hbad with hbad | hbad) <;> first | (exfalso; omega) | (
            go_wp2_with fail
            go_quiet (fail)
            go_wp2_with (first | (go_at_call 78; (with_reducible refine (HU.out nq).mono ?_); rintro e w4 ⟨rfl, hR4, hN4⟩; obtain ⟨k0, k1, k2, k3, k4, k5⟩ := rdr_cells hR4) | (go_at_call 102; (with_reducible refine (rf_fail7 q A n c _ 0 6 _ hR4).mono ?_); rintro e w5 ⟨rfl, hR5, hN5⟩; rw [if_pos rfl] at hR5; obtain ⟨m0, m1, m2, m3, m4, m5⟩ := rdr_cells hR5))
            go_ret
            exact ⟨_, [], _, rfl, OwnG.nil _ _ _ _ _, by rw [HTe.out]; exact hR5, ((hN.drewN nq).trans hN4).trans hN5, fun e => by rw [HTe.out] at e; omega⟩)
      · have a3 : T.e = (plGo f n 2 16 (G.drop (j + 1)) (v + svB f s u t) (t + swB s u)).e ∧ (T.e = 0 → T.L = (X ++ [v + svB f s u t]) ++ (plGo f n 2 16 (G.drop (j + 1)) (v + svB f s u t) (t + swB s u)).L ∧ T.p = (plGo f n 2 16 (G.drop (j + 1)) (v + svB f s u t) (t + swB s u)).p) := ⟨a4, fun e => by
          obtain ⟨b1, b2⟩ := a5 (by rw [← a4]; exact e)
          obtain ⟨c1, c2⟩ := hT2 e
          exact ⟨by rw [c1, b1, List.append_assoc]; rfl, by rw [c2, b2]⟩⟩
        clear a4 a5 hT2
        cases s <;> cases u
        · -- ff
          have HU := Lib.hid (fun (k : Nat) => rf_s2_in q B A n c f t (wr.drewN k) (HR.out.drewN k) (hRb.drewN k) hB HF.out (by simpa [swB] using a1) hn)
          have hzb := sgn2_range HF.out (p := t) (by simpa [swB] using a1)
          have hsh : -32768 ≤ v + (sgn 2 (numAt f t 2)) ∧ v + (sgn 2 (numAt f t 2)) ≤ 32767 := by simp only [Sh, svB, if_true, if_false, Bool.false_eq_true] at a2; omega
          simp only [swB, svB, if_true, if_false, Bool.false_eq_true] at a3
          have HX := Lib.hid a3
          clear a2 a3
          generalize sgn 2 (numAt f t 2) = z at *
          simp only [swB, if_true, if_false, Bool.false_eq_true] at a1
          have hlen : X.length ≤ 3000000 := by omega
          go_wp2_with fail
          go_quiet (fail)
          go_wp2_with (first | (go_at_call 77; (with_reducible refine (HU.out nq).mono ?_); rintro e w4 ⟨rfl, _, hR4, hN4⟩; obtain ⟨k0, k1, k2, k3, k4, k5⟩ := rdr_cells hR4; have hNN := (hN.drewN nq).trans hN4; have hO4 := OwnG.near (hO.since ((Since.refl wr).drewN nq)) hN4 (fun e => by have := hO.lt e; omega)) | (at_builtin; refine wpList_append_near rfl (.tmp 66) (.tmp 68) rfl _ q hq hNN 3 _ hR4 _ X (by rfl) hO4 _ _ _ (by rfl) rfl hlen ?_; intro v7 w7 hO7 hN7 hR7))
          go_roundw
          case rel => exact ⟨j + 1, X ++ [v + z], v + z, t + 2, by omega, by rw [List.length_append, hX]; rfl, by first | rfl | go_num | simp, by first | rfl | go_num | simp, by omega, hsh, hO7, hN7, hR7, HX⟩
          case measure => simp [intOf]; omega
        · -- ft
          have hsh : -32768 ≤ v ∧ v ≤ 32767 := by simp only [Sh, svB, if_true, if_false, Bool.false_eq_true] at a2; omega
          simp only [swB, svB, if_true, if_false, Bool.false_eq_true, Int.add_zero, Nat.add_zero] at a3
          have HX := Lib.hid a3
          clear a2 a3
          simp only [swB, if_true, if_false, Bool.false_eq_true] at a1
          have hlen : X.length ≤ 3000000 := by omega
          go_wp2_with fail
          go_quiet (fail)
          have hNN := hN.drewN nq
          have hO4 := hO.since ((Since.refl wr).drewN nq)
          have hR4 := HR.out.drewN nq
          obtain ⟨k0, k1, k2, k3, k4, k5⟩ := rdr_cells hR4
          go_wp2_with (first | (at_builtin; refine wpList_append_near rfl (.tmp 66) (.tmp 68) rfl _ q hq hNN 3 _ hR4 _ X (by rfl) hO4 _ _ _ (by rfl) rfl hlen ?_; intro v7 w7 hO7 hN7 hR7))
          go_roundw
          case rel => exact ⟨j + 1, X ++ [v], v, t + 0, by omega, by rw [List.length_append, hX]; rfl, by first | rfl | go_num | simp, by first | rfl | go_num | simp, by omega, hsh, hO7, hN7, hR7, HX⟩
          case measure => simp [intOf]; omega
        · -- tf
          have HU := Lib.hid (fun (k : Nat) => rf_u1_in q B A n c f t (wr.drewN k) (HR.out.drewN k) (hRb.drewN k) hB HF.out (by simpa [swB] using a1) hn)
          have hzb := HF.out t (by simp [swB] at a1; omega)
          have hsh : -32768 ≤ v - (f t) ∧ v - (f t) ≤ 32767 := by simp only [Sh, svB, if_true, if_false, Bool.false_eq_true] at a2; omega
          simp only [swB, svB, if_true, if_false, Bool.false_eq_true, ← Int.sub_eq_add_neg] at a3
          have HX := Lib.hid a3
          clear a2 a3
          generalize f t = z at *
          simp only [swB, if_true, if_false, Bool.false_eq_true] at a1
          have hlen : X.length ≤ 3000000 := by omega
          go_wp2_with fail
          go_quiet (fail)
          go_wp2_with (first | (go_at_call 78; (with_reducible refine (HU.out nq).mono ?_); rintro e w4 ⟨rfl, hR4, hN4⟩; obtain ⟨k0, k1, k2, k3, k4, k5⟩ := rdr_cells hR4; have hNN := (hN.drewN nq).trans hN4; have hO4 := OwnG.near (hO.since ((Since.refl wr).drewN nq)) hN4 (fun e => by have := hO.lt e; omega)) | (at_builtin; refine wpList_append_near rfl (.tmp 66) (.tmp 68) rfl _ q hq hNN 3 _ hR4 _ X (by rfl) hO4 _ _ _ (by rfl) rfl hlen ?_; intro v7 w7 hO7 hN7 hR7))
          go_roundw
          case rel => exact ⟨j + 1, X ++ [v - z], v - z, t + 1, by omega, by rw [List.length_append, hX]; rfl, by first | rfl | go_num | simp, by first | rfl | go_num | simp, by omega, hsh, hO7, hN7, hR7, HX⟩
          case measure => simp [intOf]; omega
        · -- tt
          have HU := Lib.hid (fun (k : Nat) => rf_u1_in q B A n c f t (wr.drewN k) (HR.out.drewN k) (hRb.drewN k) hB HF.out (by simpa [swB] using a1) hn)
          have hzb := HF.out t (by simp [swB] at a1; omega)
          have hsh : -32768 ≤ v + (f t) ∧ v + (f t) ≤ 32767 := by simp only [Sh, svB, if_true, if_false, Bool.false_eq_true] at a2; omega
          simp only [swB, svB, if_true, if_false, Bool.false_eq_true] at a3
          have HX := Lib.hid a3
          clear a2 a3
          generalize f t = z at *
          simp only [swB, if_true, if_false, Bool.false_eq_true] at a1
          have hlen : X.length ≤ 3000000 := by omega
          go_wp2_with fail
          go_quiet (fail)
          go_wp2_with (first | (go_at_call 78; (with_reducible refine (HU.out nq).mono ?_); rintro e w4 ⟨rfl, hR4, hN4⟩; obtain ⟨k0, k1, k2, k3, k4, k5⟩ := rdr_cells hR4; have hNN := (hN.drewN nq).trans hN4; have hO4 := OwnG.near (hO.since ((Since.refl wr).drewN nq)) hN4 (fun e => by have := hO.lt e; omega)) | (at_builtin; refine wpList_append_near rfl (.tmp 66) (.tmp 68) rfl _ q hq hNN 3 _ hR4 _ X (by rfl) hO4 _ _ _ (by rfl) rfl hlen ?_; intro v7 w7 hO7 hN7 hR7))
          go_roundw
          case rel => exact ⟨j + 1, X ++ [v + z], v + z, t + 1, by omega, by rw [List.length_append, hX]; rfl, by first | rfl | go_num | simp, by first | rfl | go_num | simp, by omega, hsh, hO7, hN7, hR7, HX⟩
          case measure => simp [intOf]; omega
    · obtain rfl : j = m := by omega
      obtain ⟨t1, t2⟩ := hT.out
      have hd0 : G.drop j = [] := List.drop_eq_nil_of_le (by rw [← HM.out]; omega)
      rw [hd0] at t1 t2
      have hTe : T.e = 0 := t1
      have hFin := Lib.hid (show RfSt q A n c T w (.returned (.slice A9 j c9)) wr from ⟨_, X, t, rfl, hO, by rw [hTe]; exact hR, hN, fun e => ⟨((t2 e).1.trans (List.append_nil X)).symm, (by rw [(t2 e).2]; rfl)⟩⟩)
      have hjm2 : ¬ (j : Int) < (j : Int) := by omega
      clear t1 t2 hd0 hTe hT hR hg hO hr9
      go_wp2_with fail
      go_ret
      exact hFin.out

set_option maxRecDepth 100000 in
set_option maxHeartbeats 16000000 in
theorem rf_steps_no4 (q : Nat) (A : Option Addr) (n c : Nat) (p E : Int) (D : Option Addr) (m d : Nat) (G : List Int) (w : World) (hR : Row w q 3 (RdrF A n c p E)) (h0 : E ≠ 0) (hg : RdQ q w D m (I64 (fnL G))) (hm4 : m ≤ 4096) :
    Calls Try.prog 80 #[.pointer (some ⟨q, 0, none⟩), .slice D m d, .int .i64 4, .int .i64 32] w fun e w' => e = .returned (.slice none 0 0) ∧ (∃ k, w' = w.drewN k) := by
  have d0 : (E == 0) = false := by simpa using h0
  have HU := Lib.hid (fun (k : Nat) => rf_u7_no q A n c p E 1 (w.drewN k) (hR.drewN k) h0)
  have HS := Lib.hid (fun (k : Nat) => rf_s7_no q A n c p E (w.drewN k) (hR.drewN k) h0)
  by_cases hm : m = 0
  · subst hm
    clear hg hR
    go_enter Try.func80, Try.ntmps80
    go_wp2_with fail
    go_loopw [9, 10, 17] (fun v v10 y wr => v = .slice none 0 0 ∧ v10 = .int .i64 0 ∧ y = .int .i64 0 ∧ Hid (wr = w)) (fun _ _ _ _ => 0)
    case atStart => exact ⟨rfl, rfl, rfl, Lib.hid rfl⟩
    case round =>
      obtain ⟨rfl, rfl, rfl, hw⟩ := hrel
      have hw' := hw.out
      subst hw'
      clear hw
      go_wp2_with fail
      go_ret
      exact ⟨rfl, 0, rfl⟩
  · obtain ⟨gb, go, rfl, gq, gl, gc⟩ := hg (by omega)
    have gcj := gc 0 (by omega)
    simp only [I64, IntRow, Nat.add_zero] at gcj
    have hmI : (0 : Int) < (m : Int) := by omega
    obtain ⟨c0, c1, c2, f1, f2, hq⟩ := rdr_cells hR
    generalize fnL G 0 = g at *
    clear hg gc hR
    have d1 : (E != 0) = true := by simpa using h0
    · go_enter Try.func80, Try.ntmps80
      go_wp2_with fail
      go_loopw [9, 10, 17] (fun o9 v10 y wr => o9 = .slice none 0 0 ∧ v10 = .int .i64 0 ∧ y = .int .i64 0 ∧ Hid (wr = w)) (fun _ _ _ _ => 0)
      case atStart => exact ⟨rfl, rfl, rfl, Lib.hid rfl⟩
      case round =>
        obtain ⟨rfl, rfl, rfl, hw⟩ := hrel
        have hw' := hw.out
        subst hw'
        clear hw
        go_wp2_with fail
        go_quiet (fail)
        go_wp2_with (first | (go_at_call 78; (with_reducible refine (HU.out nq).mono ?_); rintro e w2 ⟨rfl, hw⟩; have hw' := hw.symm; subst hw'; clear hw) | (go_at_call 77; (with_reducible refine (HS.out nq).mono ?_); rintro e w2 ⟨rfl, hw⟩; have hw' := hw.symm; subst hw'; clear hw))
        all_goals go_ret
        all_goals exact ⟨rfl, nq, rfl⟩

set_option maxRecDepth 100000 in
set_option maxHeartbeats 64000000 in
theorem rf_steps4 (q B : Nat) (A : Option Addr) (n c : Nat) (f : Nat → Int) (p : Nat) (D : Option Addr) (m d : Nat) (G : List Int) (w : World) (hR : Row w q 3 (RdrF A n c (p : Int) 0)) (h : Rd w B A n (U8 f)) (hB : B ≤ q) (hf : ∀ j, j < n → 0 ≤ f j ∧ f j ≤ 255) (hp : p ≤ n) (hn : n ≤ 140737488355328) (hg : RdQ q w D m (I64 (fnL G))) (hm : m = G.length) (hG : Bytes G) (hm4 : m ≤ 4096) :
    Calls Try.prog 80 #[.pointer (some ⟨q, 0, none⟩), .slice D m d, .int .i64 4, .int .i64 32] w (RfSt q A n c (plGo f n 4 32 G 0 p) w) := by
  have hq := hR.2.2
  have hm5 : (m : Int) ≤ 4096 := by omega
  obtain ⟨T, hT⟩ : ∃ T, T = plGo f n 4 32 G 0 p := ⟨_, rfl⟩
  have H0 := Lib.hid (show T.e = (plGo f n 4 32 (G.drop 0) 0 p).e ∧ (T.e = 0 → T.L = [] ++ (plGo f n 4 32 (G.drop 0) 0 p).L ∧ T.p = (plGo f n 4 32 (G.drop 0) 0 p).p) from ⟨by rw [hT]; rfl, fun _ => ⟨by rw [hT]; rfl, by rw [hT]; rfl⟩⟩)
  rw [← hT]
  have HG := Lib.hid hG
  have HM := Lib.hid hm
  have HF := Lib.hid hf
  have HR0 := Lib.hid hR
  clear hT hG hm hf hR
  go_enter Try.func80, Try.ntmps80
  go_wp2_with fail
  go_loopw [9, 10, 17] (fun ov vv y wr => ∃ (j : Nat) (X : List Int) (v : Int) (t : Nat), j ≤ m ∧ X.length = j ∧ vv = .int .i64 v ∧ y = .int .i64 (j : Int) ∧ t ≤ n ∧ (-32768 ≤ v ∧ v ≤ 32767) ∧ OwnI wr w.heap.size ov X ∧ Near q w wr ∧ Row wr q 3 (RdrF A n c (t : Int) 0) ∧ Hid (T.e = (plGo f n 4 32 (G.drop j) v t).e ∧ (T.e = 0 → T.L = X ++ (plGo f n 4 32 (G.drop j) v t).L ∧ T.p = (plGo f n 4 32 (G.drop j) v t).p))) (fun _ _ y _ => m - (intOf y).toNat)
  case atStart => exact ⟨0, [], 0, p, by omega, rfl, rfl, rfl, hp, by omega, OwnG.nil _ _ _ _ _, Near.refl q w, HR0.out, H0⟩
  case round =>
    obtain ⟨j, X, v, t, hj, hX, rfl, rfl, ht, hv, hO, hN, hR, hT⟩ := hrel
    obtain ⟨A9, c9, rfl, hc9, hr9⟩ := hO.rd (by omega) inL_len
    rw [hX] at hc9 hO ⊢
    have hRb := h.near hN hB hq
    obtain ⟨hv1, hv2⟩ := hv
    clear H0 HR0
    by_cases hjm : j < m
    · have hjm' : (j : Int) < (m : Int) := by omega
      have hjG : j < G.length := by rw [← HM.out]; exact hjm
      have hT1 := hT.out
      have hdrop : G.drop j = fnL G j :: G.drop (j + 1) := by
        rw [List.drop_eq_getElem_cons hjG]
        congr 1
        have := fnL_get hjG
        rw [List.getElem?_eq_getElem hjG] at this
        exact Option.some.inj this
      rw [hdrop] at hT1
      have hgr := HG.out (fnL G j) (List.mem_of_getElem? (fnL_get hjG))
      obtain ⟨gb, go, rfl, gq, gl, gc⟩ := (hg.near hN) (by omega)
      have gcj : wr.cell? ⟨gb, go + j, none⟩ = some (.int .i64 (fnL G j)) := gc j hjm
      obtain ⟨g, hgg⟩ : ∃ g, g = fnL G j := ⟨_, rfl⟩
      rw [← hgg] at gcj hgr hT1
      obtain ⟨s, hs⟩ : ∃ s, decide (Has8 g 4) = s := ⟨_, rfl⟩
      obtain ⟨u, hu⟩ : ∃ u, decide (Has8 g 32) = u := ⟨_, rfl⟩
      have e1 : IntKind.i64.wrap (g.tdiv 4) = g / 4 := by rw [Int.tdiv_eq_ediv_of_nonneg hgr.1, IntKind.wrap_i64]; omega
      have e2 : IntKind.i64.wrap ((g / 4).tmod 2) = g / 4 % 2 := by rw [Int.tmod_eq_emod_of_nonneg (by omega), IntKind.wrap_i64]; omega
      have e3 := has8_b g 4 hs
      have e7 : (g / 4).tmod 2 = g / 4 % 2 := Int.tmod_eq_emod_of_nonneg (by omega)
      have e8 : (g / 32).tmod 2 = g / 32 % 2 := Int.tmod_eq_emod_of_nonneg (by omega)
      have e4 : IntKind.i64.wrap (g.tdiv 32) = g / 32 := by rw [Int.tdiv_eq_ediv_of_nonneg hgr.1, IntKind.wrap_i64]; omega
      have e5 : IntKind.i64.wrap ((g / 32).tmod 2) = g / 32 % 2 := by rw [Int.tmod_eq_emod_of_nonneg (by omega), IntKind.wrap_i64]; omega
      have e6 := has8_b g 32 hu
      have hC := pl_cases f n 4 32 g (G.drop (j + 1)) v t
      rw [swB_is, svB_is, hs, hu, ← hT1.1] at hC
      have HR := Lib.hid hR
      have hT2 := hT1.2
      clear hT hdrop hgg hs hu hg gc hR hT1 hgr hjG hr9
      rcases hC with ⟨a1, a2⟩ | ⟨a1, a2, a4⟩ | ⟨a1, a2, a4, a5⟩
      · have HTe := Lib.hid a2
        clear a2 hT2
        cases s <;> cases u
        · -- ff
          have HU := Lib.hid (fun (k : Nat) => rf_s2_out q B A n c f t (wr.drewN k) (HR.out.drewN k) (hRb.drewN k) hB HF.out ht (by simpa [swB] using a1) hn)
          clear a1
          go_wp2_with fail
          go_quiet (fail)
          go_wp2_with (go_at_call 77; (with_reducible refine (HU.out nq).mono ?_); rintro e w4 ⟨rfl, ⟨p4, hR4⟩, hN4⟩; obtain ⟨k0, k1, k2, k3, k4, k5⟩ := rdr_cells hR4)
          go_ret
          exact ⟨_, [], p4, rfl, OwnG.nil _ _ _ _ _, by rw [HTe.out]; exact hR4, (hN.drewN nq).trans hN4, fun e => by rw [HTe.out] at e; omega⟩
        · exact absurd a1 (by simp [swB]; omega)
        · -- tf
          have HU := Lib.hid (fun (k : Nat) => rf_u1_out q B A n c f t (wr.drewN k) (HR.out.drewN k) (hRb.drewN k) hB HF.out ht (by simpa [swB] using a1) hn)
          clear a1
          go_wp2_with fail
          go_quiet (fail)
          go_wp2_with (go_at_call 78; (with_reducible refine (HU.out nq).mono ?_); rintro e w4 ⟨rfl, ⟨p4, hR4⟩, hN4⟩; obtain ⟨k0, k1, k2, k3, k4, k5⟩ := rdr_cells hR4)
          go_ret
          exact ⟨_, [], p4, rfl, OwnG.nil _ _ _ _ _, by rw [HTe.out]; exact hR4, (hN.drewN nq).trans hN4, fun e => by rw [HTe.out] at e; omega⟩
        · -- tt
          have HU := Lib.hid (fun (k : Nat) => rf_u1_out q B A n c f t (wr.drewN k) (HR.out.drewN k) (hRb.drewN k) hB HF.out ht (by simpa [swB] using a1) hn)
          clear a1
          go_wp2_with fail
          go_quiet (fail)
          go_wp2_with (go_at_call 78; (with_reducible refine (HU.out nq).mono ?_); rintro e w4 ⟨rfl, ⟨p4, hR4⟩, hN4⟩; obtain ⟨k0, k1, k2, k3, k4, k5⟩ := rdr_cells hR4)
          go_ret
          exact ⟨_, [], p4, rfl, OwnG.nil _ _ _ _ _, by rw [HTe.out]; exact hR4, (hN.drewN nq).trans hN4, fun e => by rw [HTe.out] at e; omega⟩
      · have HTe := Lib.hid a4
        clear a4 hT2
        cases s <;> cases u
        · -- ff
          have HU := Lib.hid (fun (k : Nat) => rf_s2_in q B A n c f t (wr.drewN k) (HR.out.drewN k) (hRb.drewN k) hB HF.out (by simpa [swB] using a1) hn)
          have hzb := sgn2_range HF.out (p := t) (by simpa [swB] using a1)
          have hbad : v + sgn 2 (numAt f t 2) < -32768 ∨ 32767 < v + sgn 2 (numAt f t 2) := by simp only [Sh, svB, if_true, if_false, Bool.false_eq_true] at a2; omega
          generalize sgn 2 (numAt f t 2) = z at *
          clear a1 a2
          (rcases hbad with hbad | hbad) <;> first | (exfalso; omega) | (
            go_wp2_with fail
            go_quiet (fail)
            go_wp2_with (first | (go_at_call 77; (with_reducible refine (HU.out nq).mono ?_); rintro e w4 ⟨rfl, _, hR4, hN4⟩; obtain ⟨k0, k1, k2, k3, k4, k5⟩ := rdr_cells hR4) | (go_at_call 102; (with_reducible refine (rf_fail7 q A n c _ 0 6 _ hR4).mono ?_); rintro e w5 ⟨rfl, hR5, hN5⟩; rw [if_pos rfl] at hR5; obtain ⟨m0, m1, m2, m3, m4, m5⟩ := rdr_cells hR5))
            go_ret
            exact ⟨_, [], _, rfl, OwnG.nil _ _ _ _ _, by rw [HTe.out]; exact hR5, ((hN.drewN nq).trans hN4).trans hN5, fun e => by rw [HTe.out] at e; omega⟩)
        · exact absurd a2 (by simp only [svB, Sh]; simp; omega)
        · -- tf
          have HU := Lib.hid (fun (k : Nat) => rf_u1_in q B A n c f t (wr.drewN k) (HR.out.drewN k) (hRb.drewN k) hB HF.out (by simpa [swB] using a1) hn)
          have hzb := HF.out t (by simp [swB] at a1; omega)
          have hbad : v - f t < -32768 ∨ 32767 < v - f t := by simp only [Sh, svB, if_true, if_false, Bool.false_eq_true] at a2; omega
          generalize f t = z at *
          clear a1 a2
          (rcases hbad with hbad | hbad) <;> first | (exfalso; omega) | (
            go_wp2_with fail
            go_quiet (fail)
            go_wp2_with (first | (go_at_call 78; (with_reducible refine (HU.out nq).mono ?_); rintro e w4 ⟨rfl, hR4, hN4⟩; obtain ⟨k0, k1, k2, k3, k4, k5⟩ := rdr_cells hR4) | (go_at_call 102; (with_reducible refine (rf_fail7 q A n c _ 0 6 _ hR4).mono ?_); rintro e w5 ⟨rfl, hR5, hN5⟩; rw [if_pos rfl] at hR5; obtain ⟨m0, m1, m2, m3, m4, m5⟩ := rdr_cells hR5))
            go_ret
            exact ⟨_, [], _, rfl, OwnG.nil _ _ _ _ _, by rw [HTe.out]; exact hR5, ((hN.drewN nq).trans hN4).trans hN5, fun e => by rw [HTe.out] at e; omega⟩)
        · -- tt
          have HU := Lib.hid (fun (k : Nat) => rf_u1_in q B A n c f t (wr.drewN k) (HR.out.drewN k) (hRb.drewN k) hB HF.out (by simpa [swB] using a1) hn)
          have hzb := HF.out t (by simp [swB] at a1; omega)
          have hbad : v + f t < -32768 ∨ 32767 < v + f t := by simp only [Sh, svB, if_true, if_false, Bool.false_eq_true] at a2; omega
          generalize f t = z at *
          clear a1 a2
          (rcases hbad with hbad | hbad) <;> first | (exfalso; omega) | (
            go_wp2_with fail
            go_quiet (fail)
            go_wp2_with (first | (go_at_call 78; (with_reducible refine (HU.out nq).mono ?_); rintro e w4 ⟨rfl, hR4, hN4⟩; obtain ⟨k0, k1, k2, k3, k4, k5⟩ := rdr_cells hR4) | (go_at_call 102; (with_reducible refine (rf_fail7 q A n c _ 0 6 _ hR4).mono ?_); rintro e w5 ⟨rfl, hR5, hN5⟩; rw [if_pos rfl] at hR5; obtain ⟨m0, m1, m2, m3, m4, m5⟩ := rdr_cells hR5))
            go_ret
            exact ⟨_, [], _, rfl, OwnG.nil _ _ _ _ _, by rw [HTe.out]; exact hR5, ((hN.drewN nq).trans hN4).trans hN5, fun e => by rw [HTe.out] at e; omega⟩)
      · have a3 : T.e = (plGo f n 4 32 (G.drop (j + 1)) (v + svB f s u t) (t + swB s u)).e ∧ (T.e = 0 → T.L = (X ++ [v + svB f s u t]) ++ (plGo f n 4 32 (G.drop (j + 1)) (v + svB f s u t) (t + swB s u)).L ∧ T.p = (plGo f n 4 32 (G.drop (j + 1)) (v + svB f s u t) (t + swB s u)).p) := ⟨a4, fun e => by
          obtain ⟨b1, b2⟩ := a5 (by rw [← a4]; exact e)
          obtain ⟨c1, c2⟩ := hT2 e
          exact ⟨by rw [c1, b1, List.append_assoc]; rfl, by rw [c2, b2]⟩⟩
        clear a4 a5 hT2
        cases s <;> cases u
        · -- ff
          have HU := Lib.hid (fun (k : Nat) => rf_s2_in q B A n c f t (wr.drewN k) (HR.out.drewN k) (hRb.drewN k) hB HF.out (by simpa [swB] using a1) hn)
          have hzb := sgn2_range HF.out (p := t) (by simpa [swB] using a1)
          have hsh : -32768 ≤ v + (sgn 2 (numAt f t 2)) ∧ v + (sgn 2 (numAt f t 2)) ≤ 32767 := by simp only [Sh, svB, if_true, if_false, Bool.false_eq_true] at a2; omega
          simp only [swB, svB, if_true, if_false, Bool.false_eq_true] at a3
          have HX := Lib.hid a3
          clear a2 a3
          generalize sgn 2 (numAt f t 2) = z at *
          simp only [swB, if_true, if_false, Bool.false_eq_true] at a1
          have hlen : X.length ≤ 3000000 := by omega
          go_wp2_with fail
          go_quiet (fail)
          go_wp2_with (first | (go_at_call 77; (with_reducible refine (HU.out nq).mono ?_); rintro e w4 ⟨rfl, _, hR4, hN4⟩; obtain ⟨k0, k1, k2, k3, k4, k5⟩ := rdr_cells hR4; have hNN := (hN.drewN nq).trans hN4; have hO4 := OwnG.near (hO.since ((Since.refl wr).drewN nq)) hN4 (fun e => by have := hO.lt e; omega)) | (at_builtin; refine wpList_append_near rfl (.tmp 66) (.tmp 68) rfl _ q hq hNN 3 _ hR4 _ X (by rfl) hO4 _ _ _ (by rfl) rfl hlen ?_; intro v7 w7 hO7 hN7 hR7))
          go_roundw
          case rel => exact ⟨j + 1, X ++ [v + z], v + z, t + 2, by omega, by rw [List.length_append, hX]; rfl, by first | rfl | go_num | simp, by first | rfl | go_num | simp, by omega, hsh, hO7, hN7, hR7, HX⟩
          case measure => simp [intOf]; omega
        · -- ft
          have hsh : -32768 ≤ v ∧ v ≤ 32767 := by simp only [Sh, svB, if_true, if_false, Bool.false_eq_true] at a2; omega
          simp only [swB, svB, if_true, if_false, Bool.false_eq_true, Int.add_zero, Nat.add_zero] at a3
          have HX := Lib.hid a3
          clear a2 a3
          simp only [swB, if_true, if_false, Bool.false_eq_true] at a1
          have hlen : X.length ≤ 3000000 := by omega
          go_wp2_with fail
          go_quiet (fail)
          have hNN := hN.drewN nq
          have hO4 := hO.since ((Since.refl wr).drewN nq)
          have hR4 := HR.out.drewN nq
          obtain ⟨k0, k1, k2, k3, k4, k5⟩ := rdr_cells hR4
          go_wp2_with (first | (at_builtin; refine wpList_append_near rfl (.tmp 66) (.tmp 68) rfl _ q hq hNN 3 _ hR4 _ X (by rfl) hO4 _ _ _ (by rfl) rfl hlen ?_; intro v7 w7 hO7 hN7 hR7))
          go_roundw
          case rel => exact ⟨j + 1, X ++ [v], v, t + 0, by omega, by rw [List.length_append, hX]; rfl, by first | rfl | go_num | simp, by first | rfl | go_num | simp, by omega, hsh, hO7, hN7, hR7, HX⟩
          case measure => simp [intOf]; omega
        · -- tf
          have HU := Lib.hid (fun (k : Nat) => rf_u1_in q B A n c f t (wr.drewN k) (HR.out.drewN k) (hRb.drewN k) hB HF.out (by simpa [swB] using a1) hn)
          have hzb := HF.out t (by simp [swB] at a1; omega)
          have hsh : -32768 ≤ v - (f t) ∧ v - (f t) ≤ 32767 := by simp only [Sh, svB, if_true, if_false, Bool.false_eq_true] at a2; omega
          simp only [swB, svB, if_true, if_false, Bool.false_eq_true, ← Int.sub_eq_add_neg] at a3
          have HX := Lib.hid a3
          clear a2 a3
          generalize f t = z at *
          simp only [swB, if_true, if_false, Bool.false_eq_true] at a1
          have hlen : X.length ≤ 3000000 := by omega
          go_wp2_with fail
          go_quiet (fail)
          go_wp2_with (first | (go_at_call 78; (with_reducible refine (HU.out nq).mono ?_); rintro e w4 ⟨rfl, hR4, hN4⟩; obtain ⟨k0, k1, k2, k3, k4, k5⟩ := rdr_cells hR4; have hNN := (hN.drewN nq).trans hN4; have hO4 := OwnG.near (hO.since ((Since.refl wr).drewN nq)) hN4 (fun e => by have := hO.lt e; omega)) | (at_builtin; refine wpList_append_near rfl (.tmp 66) (.tmp 68) rfl _ q hq hNN 3 _ hR4 _ X (by rfl) hO4 _ _ _ (by rfl) rfl hlen ?_; intro v7 w7 hO7 hN7 hR7))
          go_roundw
          case rel => exact ⟨j + 1, X ++ [v - z], v - z, t + 1, by omega, by rw [List.length_append, hX]; rfl, by first | rfl | go_num | simp, by first | rfl | go_num | simp, by omega, hsh, hO7, hN7, hR7, HX⟩
          case measure => simp [intOf]; omega
        · -- tt
          have HU := Lib.hid (fun (k : Nat) => rf_u1_in q B A n c f t (wr.drewN k) (HR.out.drewN k) (hRb.drewN k) hB HF.out (by simpa [swB] using a1) hn)
          have hzb := HF.out t (by simp [swB] at a1; omega)
          have hsh : -32768 ≤ v + (f t) ∧ v + (f t) ≤ 32767 := by simp only [Sh, svB, if_true, if_false, Bool.false_eq_true] at a2; omega
          simp only [swB, svB, if_true, if_false, Bool.false_eq_true] at a3
          have HX := Lib.hid a3
          clear a2 a3
          generalize f t = z at *
          simp only [swB, if_true, if_false, Bool.false_eq_true] at a1
          have hlen : X.length ≤ 3000000 := by omega
          go_wp2_with fail
          go_quiet (fail)
          go_wp2_with (first | (go_at_call 78; (with_reducible refine (HU.out nq).mono ?_); rintro e w4 ⟨rfl, hR4, hN4⟩; obtain ⟨k0, k1, k2, k3, k4, k5⟩ := rdr_cells hR4; have hNN := (hN.drewN nq).trans hN4; have hO4 := OwnG.near (hO.since ((Since.refl wr).drewN nq)) hN4 (fun e => by have := hO.lt e; omega)) | (at_builtin; refine wpList_append_near rfl (.tmp 66) (.tmp 68) rfl _ q hq hNN 3 _ hR4 _ X (by rfl) hO4 _ _ _ (by rfl) rfl hlen ?_; intro v7 w7 hO7 hN7 hR7))
          go_roundw
          case rel => exact ⟨j + 1, X ++ [v + z], v + z, t + 1, by omega, by rw [List.length_append, hX]; rfl, by first | rfl | go_num | simp, by first | rfl | go_num | simp, by omega, hsh, hO7, hN7, hR7, HX⟩
          case measure => simp [intOf]; omega
    · obtain rfl : j = m := by omega
      obtain ⟨t1, t2⟩ := hT.out
      have hd0 : G.drop j = [] := List.drop_eq_nil_of_le (by rw [← HM.out]; omega)
      rw [hd0] at t1 t2
      have hTe : T.e = 0 := t1
      have hFin := Lib.hid (show RfSt q A n c T w (.returned (.slice A9 j c9)) wr from ⟨_, X, t, rfl, hO, by rw [hTe]; exact hR, hN, fun e => ⟨((t2 e).1.trans (List.append_nil X)).symm, (by rw [(t2 e).2]; rfl)⟩⟩)
      have hjm2 : ¬ (j : Int) < (j : Int) := by omega
      clear t1 t2 hd0 hTe hT hR hg hO hr9
      go_wp2_with fail
      go_ret
      exact hFin.out

end Go.Proofs.Ytpplnapfpoloiaa
