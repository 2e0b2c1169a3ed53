/-
  Layer 7: the law SimpleReads, walked.
-/
import Derived.Test.YtpplnapfpoloiaaSjH
import Derived.Test.YtpplnapfpoloiaaSiW
namespace Go.Proofs.Ytpplnapfpoloiaa
open Go.RowKit Go.ChangeShapes Go.WideShapes Go.Deep
set_option linter.unusedVariables false
set_option linter.unusedSimpArgs false

theorem cutE7_len {α : Type} : ∀ (E : List Int) (a : Nat) (K : List α), (cutE7 a E K).length = E.length ∧ ∀ L, L ∈ cutE7 a E K → L.length ≤ K.length := by
  intro E
  induction E with
  | nil => intro a K; exact ⟨rfl, fun L h => by cases h⟩
  | cons e r ih =>
    intro a K
    unfold cutE7
    refine ⟨by rw [List.length_cons, List.length_cons, (ih _ K).1], fun L h => ?_⟩
    rcases List.mem_cons.1 h with rfl | h
    · rw [List.length_drop, List.length_take]; omega
    · exact (ih _ K).2 L h
theorem zip7_len {α : Type} (mk : Int → Int → Bool → α) : ∀ (X Y : List Int) (O : List Bool), (zip7 mk X Y O).length ≤ X.length := by
  intro X
  induction X with
  | nil => intro Y O; simp [zip7]
  | cons x X ih =>
    intro Y O
    cases Y with
    | nil => simp [zip7]
    | cons y Y =>
      cases O with
      | nil => simp [zip7]
      | cons o O => simp only [zip7, List.length_cons]; have := ih Y O; omega
theorem an7_small (f : Nat → Int) (n : Nat) (hf : ∀ j, j < n → 0 ≤ f j ∧ f j ≤ 255) : (rdAns7 f n).E.length ≤ 32768 ∧ (rdAns7 f n).X.length ≤ 4096 ∧ (rdAns7 f n).m ≤ 65535 := by
  unfold rdAns7
  by_cases h0 : n = 0
  · rw [if_pos h0]; simp [no7]
  by_cases h10 : n < 10
  · rw [if_neg h0, if_pos h10]; simp [no7]
  rw [if_neg h0, if_neg h10]
  by_cases h1 : s2 f 0 < 0
  · rw [if_pos h1]; simp [no7]
  rw [if_neg h1]
  by_cases h2 : s2 f 0 = 0
  · rw [if_pos h2]; simp [no7]
  rw [if_neg h2]
  have hr := numAt_range (f := f) (p := 0) (k := 2) (fun j hj => hf j (by omega))
  have hsr : s2 f 0 ≤ 32767 := by
    unfold s2 sgn; simp only [Int.reducePow] at hr ⊢; split <;> omega
  obtain ⟨k, hk⟩ : ∃ k : Nat, s2 f 0 = k := ⟨(s2 f 0).toNat, by omega⟩
  rw [hk, Int.toNat_natCast]
  unfold rdA7
  by_cases h3 : n < 10 + 2 * k
  · rw [if_pos h3]; simp [no7]
  rw [if_neg h3]
  by_cases h4 : ∃ i, i < k ∧ 0 < i ∧ en7 f i ≤ en7 f (i - 1)
  · rw [if_pos h4]; simp [no7]
  rw [if_neg h4]
  by_cases h5 : 4096 ≤ en7 f (k - 1)
  · rw [if_pos h5]; simp [no7]
  rw [if_neg h5]
  unfold rdB7
  by_cases h6 : n < 12 + 2 * k
  · rw [if_pos h6]; simp [no7]
  rw [if_neg h6]
  by_cases h7 : (n : Int) < 12 + 2 * k + numAt f (10 + 2 * k) 2
  · rw [if_pos h7]; simp [no7]
  rw [if_neg h7]
  by_cases h8 : (knGo f n (en7 f (k - 1) + 1).toNat (12 + 2 * k + (numAt f (10 + 2 * k) 2).toNat)).e ≠ 0
  · rw [if_pos h8]; simp [no7]
  rw [if_neg h8]
  obtain ⟨l1, _, _⟩ := kn_len f n (en7 f (k - 1) + 1).toNat (12 + 2 * k + (numAt f (10 + 2 * k) 2).toNat) (fun j hj => (hf j hj).1) (Decidable.not_not.1 h8)
  have hr2 := numAt_range (f := f) (p := 10 + 2 * k) (k := 2) (fun j hj => hf j (by omega))
  simp only [Int.reducePow] at hr2
  refine ⟨by simp; omega, by rw [l1]; omega, ?_⟩
  show (numAt f (10 + 2 * k) 2).toNat ≤ 65535
  omega
/-- Both readers' answers of the same bytes. -/
theorem sum7 (f : Nat → Int) (n : Nat) (hf : ∀ j, j < n → 0 ≤ f j ∧ f j ≤ 255) : ∃ (LL : List (List Kt)) (m : Nat) (E : Int) (G : Nat → Int), (LL.length ≤ 32768 ∧ ∀ L, L ∈ LL → L.length ≤ 4096) ∧ m ≤ 65535 ∧
    (∀ w e w', RdPost7 f n w e w' → ∃ A1 c1 A2 c2, e = .returned (.tuple #[.agg #[.slice A1 LL.length c1, .slice A2 m c2], .int .i64 E]) ∧ RdOL w' w'.heap.size A1 LL ∧ m ≤ c2 ∧ Nw w' w.heap.size A2 m (U8 G) ∧ Since w w') ∧
    (∀ w e w', RrPost7 f n w e w' → ∃ A1 c1 A2 c2, e = .returned (.tuple #[.agg #[.slice A1 LL.length c1, .slice A2 m c2], .int .i64 E]) ∧ RdOL w' w'.heap.size A1 LL ∧ Rd w' w'.heap.size A2 m (U8 G) ∧ Since w w') := by
  obtain ⟨s1, s2, s3⟩ := an7_small f n hf
  refine ⟨lay7 (rdAns7 f n), (rdAns7 f n).m, (rdAns7 f n).e, fun j => f ((rdAns7 f n).s + j), ⟨?_, fun L hL => ?_⟩, s3, fun w e w' h => h, fun w e w' h => h⟩
  · unfold lay7; rw [(cutE7_len _ _ _).1]; exact s1
  · unfold lay7 at hL
    have h1 := (cutE7_len _ _ _).2 L hL
    have h2 := zip7_len Kt.mk (rdAns7 f n).X (rdAns7 f n).Y ((rdAns7 f n).G.map (fun g => decide (Has8 g 1)))
    omega
theorem same7_r (A A' : Option Addr) (c c' N : Nat) (LL : List (List Kt)) (w : World) (hN : N = LL.length) (h : RdOL w w.heap.size A LL) (h' : RdOL w w.heap.size A' LL) (hn : LL.length ≤ maxLen) (hm : ∀ L, L ∈ LL → L.length ≤ maxLen) :
    Calls Try.prog 35 #[.slice A N c, .slice A' N c'] w fun e w' => e = .returned (.bool true) ∧ Since w w' := by
  subst hN
  exact rf_sameL A A' c c' LL w h h' hn hm
def Rl7 (w2 : World) (gb : Nat) (u v : Value) (gq m : Nat) (y : Value) (wr : World) : Prop := ∃ (j : Nat) (F : Nat → Int), j ≤ m ∧ y = .int .i64 (j : Int) ∧ Row wr gq m (U8 F) ∧ Two wr gb u v ∧ Since w2 wr
theorem rl7_next {w2 wr : World} {gb gq m j : Nat} {u v : Value} {F : Nat → Int} {z x : Int} (hR : Row wr gq m (U8 F)) (hj : j < m) (hT : Two wr gb u v) (hne : gq ≠ gb) (hS : Since w2 wr) (hg : w2.heap.size ≤ gq) (hx : x = ((j + 1 : Nat) : Int)) : Rl7 w2 gb u v gq m (.int .i64 x) (wr.setCell ⟨gq, j, none⟩ (.int .u8 z)) :=
  ⟨j + 1, fun t => if t = j then z else F t, hj, by rw [hx], (hR.set j _).congr (fun t ht => by simp only [U8, IntRow]; split <;> rfl), hT.far hne _ _, hS.setCell hg _⟩
theorem Rl7.drew {w2 wr : World} {gb gq m : Nat} {u v y : Value} (h : Rl7 w2 gb u v gq m y wr) : Rl7 w2 gb u v gq m y wr.drew := by
  obtain ⟨j, F, h1, h2, h3, h4, h5⟩ := h
  exact ⟨j, F, h1, h2, h3.drew, h4.drew, h5.drew⟩
set_option maxRecDepth 1000000 in
set_option maxHeartbeats 16000000 in
theorem walk_simplereads (A : Option Addr) (n c : Nat) (L : List Int) (w : World) (h : RdB w w.heap.size A L) (hn : n = L.length) (hb : Bytes L) (hnn : n ≤ 140737488355328) (hnc : n ≤ c) :
    Calls Try.prog 8 #[.slice A n c] w fun e w' => e = .returned (.bool true) ∧ Since w w' := by
  have hbf := bytes_fn hb
  rw [← hn] at hbf
  obtain ⟨LL, m, E, G, ⟨hQ1, hQ2⟩, hm, hsum1, hsum2⟩ := sum7 (fnL L) n hbf
  have HS1 := Lib.hid hsum1
  have HS2 := Lib.hid hsum2
  have HF := Lib.hid hbf
  have HB := Lib.hid hb
  have H0 := Lib.hid h
  have HN := Lib.hid hn
  have HSM := Lib.hid (fun (A A' : Option Addr) (c c' : Nat) (w : World) (h : RdOL w w.heap.size A LL) (h' : RdOL w w.heap.size A' LL) => same7_r A A' c c' LL.length LL w rfl h h' (by simp only [maxLen]; omega) (fun L hL => by have := hQ2 L hL; simp only [maxLen]; omega))
  have hmi : (m : Int) ≤ 65535 := by omega
  obtain ⟨N, hN⟩ : ∃ N, N = LL.length := ⟨_, rfl⟩
  rw [← hN] at HS1 HS2 HSM
  clear hsum1 hsum2 hbf hb h hn hQ1 hQ2 hN
  have tk1 := True.intro
  go_enter Try.func8, Try.ntmps8
  go_upto_region 8 with (first | (go_at_call 32; (with_reducible refine (alive07 _).mono ?_); rintro e w1 ⟨rfl, hSa⟩; have hS1 : Since w w1 := (by (repeat (first | with_reducible (exact Since.refl _) | with_reducible assumption | with_reducible (refine Since.drew ?_) | with_reducible (refine Since.drewN ?_ _) | with_reducible (refine Since.alloc ?_ _) | (with_reducible (refine Since.setCell ?_ ?_ _); rotate_left; focus (first | (simp; done) | (simp; omega) | omega)) | (with_reducible (refine Since.trans ?_ (by with_reducible assumption))))))) | (go_at_call 28; (with_reducible refine (copy_l A n c L _ HN.out (H0.out.on hS1) (by rw [← HN.out]; exact hnn)).mono ?_); rintro e w2 ⟨g2, c2, rfl, hc2, hg2, _, hR2, hS12⟩; have hS2 := hS1.trans hS12) | (go_at_call 33; (with_reducible refine (si_read (some ⟨g2, 0, none⟩) n c2 (fnL L) _ (rdb_rd' hR2 HN.out) HF.out hnn hc2).mono ?_); intro e w3 hp; obtain ⟨A3, c3, A4, c4, rfl, hP3, hc4, hN3, hS23⟩ := HS1.out _ _ _ hp; have hX3 := (Since.refl w3).alloc (.cells #[.slice A3 N c3, .slice A4 m c4] 52); have hT3 := two_new w3 w3.heap.size rfl (.slice A3 N c3) (.slice A4 m c4) 52; have hP3 := hP3.on hX3; have hN3a := hN3.since hX3; have hS2a := hS23.trans hX3; have hS3 := hS2.trans hS2a; obtain ⟨p1, p2, p3, p4, p5⟩ := id hT3; clear hp) | (go_at_call 34; (with_reducible refine (rf_read7 A n c (fnL L) _ (rdb_rd' (H0.out.on hS3) HN.out) HF.out hnn).mono ?_); intro e w4 hp; obtain ⟨A5, c5, A6, c6, rfl, hP4, hN4, hS34⟩ := HS2.out _ _ _ hp; have hX4 := (Since.refl w4).alloc (.cells #[.slice A5 N c5, .slice A6 m c6] 52); have hT4 := two_new w4 w4.heap.size rfl (.slice A5 N c5) (.slice A6 m c6) 52; have hP4 := hP4.on hX4; have hN4a := hN4.on hX4; have hS3a := hS34.trans hX4; have hS4 := hS3.trans hS3a; have hT34 := hT3.since hS3a; have hP34 := hP3.on hS3a; have hN34 := hN3a.since hS3a; have hS24 := hS2a.trans hS3a; obtain ⟨q1, q2, q3, q4, q5⟩ := id hT34; obtain ⟨r1, r2, r3, r4, r5⟩ := id hT4; clear hp) | (go_at_call 35; (with_reducible refine (HSM.out A3 A5 _ _ _ hP34 hP4).mono ?_); rintro e w5 ⟨rfl, hS45⟩; have hS5 := hS4.trans hS45; have hN35 := hN34.since hS45; have hN45 := hN4a.on hS45; have hS25 := hS24.trans hS45; have hT35 := hT34.since hS45; have hT45 := hT4.since hS45; obtain ⟨s1, s2, s3, s4, s5⟩ := id hT35; obtain ⟨t1, t2, t3, t4, t5⟩ := id hT45) | (go_at_call 22; have _t := tk1; (with_reducible refine (ref_same A4 A6 m _ _ G G _ hN35.rd hN45 (fun _ _ => rfl)).mono ?_); rintro e w6 ⟨rfl, hw6⟩; have hw7 := hw6.symm; subst hw7; clear hw6 tk1))
  have hS35 := hX3.trans (hS3a.trans hS45)
  obtain ⟨gb, hgb⟩ : ∃ gb, gb = w3.heap.size := ⟨_, rfl⟩
  rw [← hgb] at hT35 s1 s2 s3 s4 s5 ⊢
  have HGB := Lib.hid hgb
  clear hgb hT34 hT3 hT4 hT45 hP3 hP34 hP4 q1 q2 q3 q4 q5 r1 r2 r3 r4 r5 t1 t2 t3 t4 t5 hN35 hN45 hN34 hN4 hN4a hN3a p1 p2 p3 p4 p5
  by_cases hm0 : m = 0
  · subst hm0
    go_wp2_with fail
    go_loopw [45] (fun y wr => y = .int .i64 0 ∧ wr = w5) (fun _ _ => 0)
    case atStart => exact ⟨rfl, rfl⟩
    case round =>
      obtain ⟨rfl, hwr⟩ := hrel
      have hwr2 := hwr.symm
      subst hwr2
      clear hwr
      go_wp2_with (go_at_call 22; (with_reducible refine (same_l _ A n n _ _ L L _ HN.out HN.out (hR2.on hS25) (H0.out.on hS5) rfl).mono ?_); rintro e w8 ⟨rfl, rfl⟩)
      go_ret
      exact ⟨by first | rfl | simp, hS5⟩
  · obtain ⟨gq, rfl, hgq, hrow3⟩ := hN3 (by omega)
    have hne : gq ≠ gb := by have := hrow3.2.2; have := HGB.out; omega
    have hne2 : gb ≠ gq := fun e => hne e.symm
    have hrow := hrow3.since hS35
    clear hrow3 hN3
    go_wp2_with fail
    go_loopw [45] (fun y wr => Rl7 w2 gb (.slice A3 N c3) (.slice (some ⟨gq, 0, none⟩) m c4) gq m y wr) (fun y _ => m - (intOf y).toNat)
    case atStart => exact ⟨0, G, by omega, rfl, hrow, hT35, hS25⟩
    case round =>
      obtain ⟨j, F, hj, rfl, hR, hT, hS2r⟩ := hrel
      clear s1 s2 s3 s4 s5
      obtain ⟨s1, s2, s3, s4, s5⟩ := id hT
      by_cases hjm : j < m
      · have hjm' : (j : Int) < m := by omega
        have hcell := hR.1 j hjm
        have hfr := hR.2.1 j
        have hlt := hR.2.2
        have hc : wr.cell? ⟨gq, j, none⟩ = some (.int .u8 (F j)) := hcell
        clear hcell hT35 hrow
        go_upto_region 11 with fail
        go_region
        all_goals go_wp2_with fail
        all_goals go_roundw
        all_goals first | (simp [intOf]; omega) | exact rl7_next hR hjm hT hne hS2r hgq (by omega) | exact (rl7_next hR hjm hT hne hS2r hgq (by omega)).drew
      · obtain rfl : m = j := by omega
        have hT := hS2.trans hS2r
        have hjm' : ¬ (m : Int) < (m : Int) := by omega
        go_wp2_with (go_at_call 22; (with_reducible refine (same_l _ A n n _ _ L L _ HN.out HN.out (hR2.on hS2r) (H0.out.on hT) rfl).mono ?_); rintro e w8 ⟨rfl, rfl⟩)
        go_ret
        exact ⟨by first | rfl | simp, hT⟩
end Go.Proofs.Ytpplnapfpoloiaa
