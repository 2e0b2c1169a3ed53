/-
  Layer 2: the laws BeCuts and BeLaid, walked.
-/
import Derived.Test.YtaojdflnfdabhaaBeI
import Derived.Test.YtaojdflnfdabhaaBeH
import Derived.Test.YtaojdflnfdabhaaBeG
namespace Go.Proofs.Ytaojdflnfdabhaa
open Go.RowKit
set_option linter.unusedVariables false

theorem be_lay_yes (A B : Option Addr) (n c m d : Nat) (f o : Nat → Int) (p : Nat) (w : World) (h : Rd w w.heap.size A n (U8 f)) (hB : Rd w w.heap.size B m (U8 o)) (hn : n ≤ 140737488355328) (hf : p + m ≤ n) :
    Calls Try.prog 24 #[.slice A n c, .int .i64 p, .slice B m d] w fun e w' => ∃ A' cap, e = .returned (.tuple #[.slice A' n cap, .int .i64 0]) ∧ n ≤ cap ∧ Nw w' w.heap.size A' n (U8 (layF f o m p)) ∧ Since w w' := by
  refine (be_lay A B n c m d f o p w h hB (by unfold In64; omega) hn (by omega)).mono ?_
  rintro e w' ⟨A', l, cap, rfl, hl, hc, hN, hS⟩
  obtain ⟨e1, e2⟩ := lay_yes (n := n) (m := m) (i := p) (by unfold Fits; omega)
  rw [e2] at hl
  subst hl
  exact ⟨A', cap, by rw [e1], hc, hN, hS⟩
theorem be_lay_no (A B : Option Addr) (n c m d : Nat) (f o : Nat → Int) (i : Int) (w : World) (h : Rd w w.heap.size A n (U8 f)) (hB : Rd w w.heap.size B m (U8 o)) (hi : In64 i) (hn : n ≤ 140737488355328) (hm : m ≤ 140737488355328) (hf : ¬ Fits n i m) :
    Calls Try.prog 24 #[.slice A n c, .int .i64 i, .slice B m d] w fun e w' => ∃ A' cap, e = .returned (.tuple #[.slice A' 0 cap, .int .i64 3]) ∧ Since w w' := by
  refine (be_lay A B n c m d f o i w h hB hi hn hm).mono ?_
  rintro e w' ⟨A', l, cap, rfl, hl, hc, hN, hS⟩
  obtain ⟨e1, e2⟩ := lay_no hf
  rw [e2] at hl
  subst hl
  exact ⟨A', cap, by rw [e1], hS⟩
theorem be_cut_yes (A : Option Addr) (n c : Nat) (f : Nat → Int) (p m : Nat) (w : World) (h : Rd w w.heap.size A n (U8 f)) (hn : n ≤ 140737488355328) (hnc : n ≤ c) (hf : p + m ≤ n) (x y : Int) (hx : x = p) (hy : y = m) :
    Calls Try.prog 22 #[.slice A n c, .int .i64 x, .int .i64 y] w fun e w' => ∃ A' cap, e = .returned (.tuple #[.slice A' m cap, .int .i64 0]) ∧ m ≤ cap ∧ Nw w' w.heap.size A' m (U8 (fun j => f (p + j))) ∧ Since w w' := by
  subst hx; subst hy
  refine (be_cut A n c f p m w h (by unfold In64; omega) (by unfold In64; omega) hn hnc).mono ?_
  rintro e w' ⟨A', l, cap, rfl, hl, hc, hN, hS⟩
  obtain ⟨e1, e2⟩ := cut_yes (n := n) (i := p) (k := m) (by unfold Fits; omega)
  rw [e2] at hl
  subst hl
  exact ⟨A', cap, by rw [e1], hc, hN, hS⟩

set_option maxHeartbeats 4000000 in
theorem walk_laid (A B : Option Addr) (n c m d : Nat) (f o : Nat → Int) (i : Int) (w : World) (h : Rd w w.heap.size A n (U8 f)) (hB : Rd w w.heap.size B m (U8 o)) (hi : In64 i) (hn : n ≤ 140737488351232) (hm : m ≤ 140737488351232) (hnc : n ≤ c) :
    Calls Try.prog 7 #[.slice A n c, .slice B m d, .int .i64 i] w fun e w' => e = .returned (.bool true) ∧ Since w w' := by
  by_cases hf : Fits n i m
  · obtain ⟨p, rfl⟩ : ∃ p : Nat, i = p := ⟨i.toNat, by have := hf.1; omega⟩
    have h4 : p + m ≤ n := by have := hf.2.2; omega
    clear hf
    have hw1 : wrap64 ((p : Int) + m) = p + m := by unfold wrap64; omega
    have hw2 : wrap64 ((n : Int) - p) = n - p := by unfold wrap64; omega
    have hpc : (p : Int) ≤ n := by omega
    have hpc2 : (p : Int) + m ≤ n := by omega
    have H1 := Lib.hid (fun j (hj : j < m) => show layF f o m p (p + j) = o j by unfold layF; rw [if_pos (by simp; omega)]; simp)
    have H2 := Lib.hid (fun j (hj : j < p) => show layF f o m p (0 + j) = f j by unfold layF; rw [if_neg (by simp only [Int.toNat_natCast]; omega), Nat.zero_add])
    have H3 := Lib.hid (fun j (hj : j < n - (p + m)) => show layF f o m p (p + m + j) = f (p + m + j) by unfold layF; rw [if_neg (by simp only [Int.toNat_natCast]; omega)])
    have HD := fun W' (hR : Rd W' W'.heap.size A n (U8 f)) => hR.drop (k := p + m) (cap := c) (m := n - (p + m)) (by omega) hnc
    have HT := fun W' (hR : Rd W' W'.heap.size A n (U8 f)) => hR.take (m := p) (by omega)
    have tok1 := True.intro
    go_enter Try.func7, Try.ntmps7
    go_wp2_with (first | (go_at_call 13; refine (alive02 _).mono ?_; rintro e w1 ⟨rfl, hS1⟩; have h1 := h.on hS1; have hB1 := hB.on hS1) | (go_at_call 24; refine (be_lay_yes A B n c m d f o p w1 h1 hB1 (by omega) h4).mono ?_; rintro e w2 ⟨A2, c2, rfl, hc2, hN2, hS2⟩; have h2 := h1.on hS2; have hB2 := hB1.on hS2) | (go_at_call 22; have _t := tok1; refine (be_cut_yes A2 n c2 _ p m w2 hN2.rd (by omega) hc2 h4 _ _ rfl rfl).mono ?_; rintro e w3 ⟨A3, c3, rfl, hc3, hN3, hS3⟩; have hL3 := hN2.rd.on hS3; clear tok1; have tok2 := True.intro) | (go_at_call 22; have _t := tok2; refine (be_cut_yes A2 n c2 _ 0 p w3 hL3 (by omega) hc2 (by omega) _ _ rfl rfl).mono ?_; rintro e w4 ⟨A4, c4, rfl, hc4, hN4, hS4⟩; have hL4 := hL3.on hS4; clear tok2; have tok3 := True.intro) | (go_at_call 22; have _t := tok3; refine (be_cut_yes A2 n c2 _ (p + m) (n - (p + m)) w4 hL4 (by omega) hc2 (by omega) _ _ (by omega) (by omega)).mono ?_; rintro e w5 ⟨A5, c5, rfl, hc5, hN5, hS5⟩; have q1 := (hN3.rd.on hS4).on hS5; have q3 := hN4.rd.on hS5; have q5 := hN5.rd; have hS := ((hS2.trans hS3).trans hS4).trans hS5; have q2 := hB1.on hS; have h5 := h1.on hS; have q4 := HT _ h5; have q6 := HD _ h5; have hSS := hS1.trans hS; clear tok3 HT HD h5 hS hS1 hS2 hS3 hS4 hS5 hN2 hN3 hN4 hN5 hL3 hL4 h1 h2 hB1 hB2 hc2 hc3 hc4 hc5; have tok4 := True.intro) | (go_at_call 19; have _t := tok4; refine (ref_same _ _ m _ _ _ _ w5 q1 q2 H1.out).mono ?_; rintro e w6 ⟨rfl, rfl⟩; clear tok4; have tok5 := True.intro) | (go_at_call 19; have _t := tok5; refine (ref_same _ _ p _ _ _ _ w6 q3 q4 H2.out).mono ?_; rintro e w7 ⟨rfl, rfl⟩; clear tok5; have tok6 := True.intro) | (go_at_call 19; have _t := tok6; refine (ref_same _ _ (n - (p + m)) _ _ _ _ w7 q5 q6 H3.out).mono ?_; rintro e w8 ⟨rfl, rfl⟩; clear tok6))
    all_goals
      go_ret
      exact ⟨rfl, hSS⟩
  · have hf' : i < 0 ∨ ((n : Int) < i ∨ ((n : Int) - i < m)) := by unfold Fits at hf; omega
    by_cases g1 : i < 0
    · have d1 : decide (i < 0) = true := by simpa using g1
      clear hf' g1
      go_enter Try.func7, Try.ntmps7
      go_wp2_with (first | (go_at_call 13; refine (alive02 _).mono ?_; rintro e w1 ⟨rfl, hS1⟩; have h1 := h.on hS1; have hB1 := hB.on hS1) | (go_at_call 24; refine (be_lay_no A B n c m d f o i w1 h1 hB1 hi (by omega) (by omega) hf).mono ?_; rintro e w2 ⟨A2, c2, rfl, hS2⟩; have hS := hS1.trans hS2; clear hS1 hS2 h1 hB1))
      go_ret
      exact ⟨rfl, hS⟩
    have d1 : decide (i < 0) = false := by simpa using g1
    by_cases g2 : (n : Int) < i
    · have d2 : decide ((n : Int) < i) = true := by simpa using g2
      clear hf' g1 g2
      go_enter Try.func7, Try.ntmps7
      go_wp2_with (first | (go_at_call 13; refine (alive02 _).mono ?_; rintro e w1 ⟨rfl, hS1⟩; have h1 := h.on hS1; have hB1 := hB.on hS1) | (go_at_call 24; refine (be_lay_no A B n c m d f o i w1 h1 hB1 hi (by omega) (by omega) hf).mono ?_; rintro e w2 ⟨A2, c2, rfl, hS2⟩; have hS := hS1.trans hS2; clear hS1 hS2 h1 hB1))
      go_ret
      exact ⟨rfl, hS⟩
    · have d2 : decide ((n : Int) < i) = false := by simpa using g2
      have h3 : (n : Int) - i < m := by omega
      have d3 : decide ((n : Int) - i < m) = true := by simpa using h3
      have hw3 : wrap64 ((n : Int) - i) = n - i := by unfold wrap64; unfold In64 at hi; omega
      clear hf' g1 g2 h3
      go_enter Try.func7, Try.ntmps7
      go_wp2_with (first | (go_at_call 13; refine (alive02 _).mono ?_; rintro e w1 ⟨rfl, hS1⟩; have h1 := h.on hS1; have hB1 := hB.on hS1) | (go_at_call 24; refine (be_lay_no A B n c m d f o i w1 h1 hB1 hi (by omega) (by omega) hf).mono ?_; rintro e w2 ⟨A2, c2, rfl, hS2⟩; have hS := hS1.trans hS2; clear hS1 hS2 h1 hB1))
      go_ret
      exact ⟨rfl, hS⟩
end Go.Proofs.Ytaojdflnfdabhaa
