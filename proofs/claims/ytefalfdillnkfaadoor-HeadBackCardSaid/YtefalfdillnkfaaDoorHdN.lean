/-
  Layer 5: the law HeadBack, walked.
-/
import Derived.Test.YtefalfdillnkfaaDoorHdL
import Derived.Test.YtefalfdillnkfaaDoorHdM
import Derived.Test.YtefalfdillnkfaaDoorKit7
import Derived.Deep.CutBlock
import Derived.Deep.DeepCutAuto
namespace Go.Proofs.YtefalfdillnkfaaDoor
open Go.RowKit
set_option linter.unusedVariables false

def over4 (p : Nat) (a b c d : Int) (F : Nat → Int) (j : Nat) : Int := if j = p then a else if j = p + 1 then b else if j = p + 2 then c else if j = p + 3 then d else F j
theorem over4_row {s : ByteArray} {x0 x1 x2 x3 : UInt8} (hs : s.data.toList = [x0, x1, x2, x3]) (F : Nat → Int) (p j : Nat) : overV p (s.data.toList.map fun x => Value.int .u8 (x.toNat : Int)) (U8 F) j = U8 (over4 p x0.toNat x1.toNat x2.toNat x3.toNat F) j := by
  rw [hs]
  unfold overV over4
  by_cases h : p ≤ j ∧ j < p + 4
  · have hc : j = p ∨ j = p + 1 ∨ j = p + 2 ∨ j = p + 3 := by omega
    rw [if_pos (by simpa using h)]
    rcases hc with rfl | rfl | rfl | rfl
    · simp [U8, IntRow]
    · simp [U8, IntRow]
    · simp [U8, IntRow, show p + 2 - p = 2 by omega]
    · simp [U8, IntRow, show p + 3 - p = 3 by omega]
  · rw [if_neg (by simpa using h)]
    simp only [U8, IntRow]
    rw [if_neg (by omega), if_neg (by omega), if_neg (by omega), if_neg (by omega)]
theorem over4_num (p : Nat) (a b c d : Int) (F : Nat → Int) : numAt (over4 p a b c d F) p 4 = 16777216 * a + 65536 * b + 256 * c + d := by
  have e0 : over4 p a b c d F p = a := by unfold over4; rw [if_pos rfl]
  have e1 : over4 p a b c d F (p + 1) = b := by unfold over4; rw [if_neg (by omega), if_pos rfl]
  have e2 : over4 p a b c d F (p + 2) = c := by unfold over4; rw [if_neg (by omega), if_neg (by omega), if_pos rfl]
  have e3 : over4 p a b c d F (p + 3) = d := by unfold over4; rw [if_neg (by omega), if_neg (by omega), if_neg (by omega), if_pos rfl]
  simp only [numAt, Nat.add_zero, e0, e1, e2, e3]
  omega
theorem over4_range {p n : Nat} {a b c d : Int} {F : Nat → Int} (ha : 0 ≤ a ∧ a ≤ 255) (hb : 0 ≤ b ∧ b ≤ 255) (hc : 0 ≤ c ∧ c ≤ 255) (hd : 0 ≤ d ∧ d ≤ 255) (h : ∀ j, j < n → 0 ≤ F j ∧ F j ≤ 255) : ∀ j, j < n → 0 ≤ over4 p a b c d F j ∧ over4 p a b c d F j ≤ 255 := fun j hj => by
  unfold over4
  split
  · exact ha
  · split
    · exact hb
    · split
      · exact hc
      · split
        · exact hd
        · exact h j hj
theorem short_of {x : Int} (h : shortB x = true) : -32768 ≤ x ∧ x ≤ 32767 := by
  unfold shortB at h
  simp only [Bool.and_eq_true, decide_eq_true_eq] at h
  exact h
theorem ph_ok {n : Nat} {em a b c d : Int} (h : phE n em a b c d = 0) : 54 ≤ n ∧ (16 ≤ em ∧ em ≤ 16384) ∧ (-32768 ≤ a ∧ a ≤ 32767) ∧ (-32768 ≤ b ∧ b ≤ 32767) ∧ (-32768 ≤ c ∧ c ≤ 32767) ∧ (-32768 ≤ d ∧ d ≤ 32767) := by
  have hn := phE_zero h
  unfold phE at h
  rw [if_neg (by omega)] at h
  cases hb : phOk em a b c d with
  | false => rw [hb] at h; exact absurd h (by simp)
  | true =>
    unfold phOk at hb
    simp only [Bool.and_eq_true, decide_eq_true_eq] at hb
    obtain ⟨⟨h1, h2⟩, ⟨⟨h3, h4⟩, h5⟩, h6⟩ := hb
    exact ⟨hn, ⟨h1, h2⟩, short_of h3, short_of h4, short_of h5, short_of h6⟩
theorem head_back {F : Nat → Int} {N : Nat} {em a b c d : Int} {l : Bool} (hm : numAt F 12 4 = 1594834165) (hE : phE N em a b c d = 0) :
    hdE (phF F em a b c d l) N = 0 ∧ hdM (phF F em a b c d l) N = em ∧ hdS (phF F em a b c d l) N 36 = a ∧ hdS (phF F em a b c d l) N 38 = b ∧ hdS (phF F em a b c d l) N 40 = c ∧ hdS (phF F em a b c d l) N 42 = d ∧ hdL (phF F em a b c d l) N = l := by
  obtain ⟨hN, h1, h2, h3, h4, h5⟩ := ph_ok hE
  have n12 : numAt (phF F em a b c d l) 12 4 = 1594834165 := by
    unfold phF
    rw [num_far _ 50 12 4 _ (by omega), num_far _ 42 12 4 _ (by omega), num_far _ 40 12 4 _ (by omega), num_far _ 38 12 4 _ (by omega), num_far _ 36 12 4 _ (by omega), num_far _ 18 12 4 _ (by omega), hm]
  have n18 : numAt (phF F em a b c d l) 18 2 = em := by
    unfold phF
    rw [num_far _ 50 18 2 _ (by omega), num_far _ 42 18 2 _ (by omega), num_far _ 40 18 2 _ (by omega), num_far _ 38 18 2 _ (by omega), num_far _ 36 18 2 _ (by omega), num_lay2]
    omega
  have n36 : numAt (phF F em a b c d l) 36 2 = a % 65536 := by
    unfold phF
    rw [num_far _ 50 36 2 _ (by omega), num_far _ 42 36 2 _ (by omega), num_far _ 40 36 2 _ (by omega), num_far _ 38 36 2 _ (by omega), num_lay2]
  have n38 : numAt (phF F em a b c d l) 38 2 = b % 65536 := by
    unfold phF
    rw [num_far _ 50 38 2 _ (by omega), num_far _ 42 38 2 _ (by omega), num_far _ 40 38 2 _ (by omega), num_lay2]
  have n40 : numAt (phF F em a b c d l) 40 2 = c % 65536 := by
    unfold phF
    rw [num_far _ 50 40 2 _ (by omega), num_far _ 42 40 2 _ (by omega), num_lay2]
  have n42 : numAt (phF F em a b c d l) 42 2 = d % 65536 := by
    unfold phF
    rw [num_far _ 50 42 2 _ (by omega), num_lay2]
  have n50 : numAt (phF F em a b c d l) 50 2 = oneIf l := by
    unfold phF
    rw [num_lay2]
    cases l <;> (unfold oneIf; decide)
  have hone : oneIf l ≤ 1 := by cases l <;> (unfold oneIf; decide)
  have e : hdE (phF F em a b c d l) N = 0 := by
    unfold hdE
    rw [if_neg (by omega), n12, n18, n50, if_neg (by omega)]
  refine ⟨e, ?_, ?_, ?_, ?_, ?_, ?_⟩
  · unfold hdM; rw [if_pos e, n18]
  · unfold hdS; rw [if_pos e, n36, sgn_mod h2]
  · unfold hdS; rw [if_pos e, n38, sgn_mod h3]
  · unfold hdS; rw [if_pos e, n40, sgn_mod h4]
  · unfold hdS; rw [if_pos e, n42, sgn_mod h5]
  · unfold hdL; rw [e, n50]; cases l <;> (unfold oneIf; decide)
theorem word_of {x : Int} (h : wordB x = true) : 0 ≤ x ∧ x ≤ 65535 := by
  unfold wordB at h
  simp only [Bool.and_eq_true, decide_eq_true_eq] at h
  exact h
theorem mp_ok {n : Nat} {v : Nat → Int} (h : mpE n v = 0) : 32 ≤ n ∧ ∀ j, j < 7 → 0 ≤ v j ∧ v j ≤ 65535 := by
  unfold mpE at h
  by_cases h1 : n < 32
  · rw [if_pos h1] at h; exact absurd h (by decide)
  · rw [if_neg h1] at h
    cases hb : allW v 7 with
    | false => rw [hb] at h; exact absurd h (by simp)
    | true =>
      refine ⟨by omega, fun j hj => ?_⟩
      simp only [allW, Bool.and_eq_true] at hb
      obtain ⟨⟨⟨⟨⟨⟨⟨_, w0⟩, w1⟩, w2⟩, w3⟩, w4⟩, w5⟩, w6⟩ := hb
      have hc : j = 0 ∨ j = 1 ∨ j = 2 ∨ j = 3 ∨ j = 4 ∨ j = 5 ∨ j = 6 := by omega
      rcases hc with rfl | rfl | rfl | rfl | rfl | rfl | rfl
      · exact word_of w0
      · exact word_of w1
      · exact word_of w2
      · exact word_of w3
      · exact word_of w4
      · exact word_of w5
      · exact word_of w6
theorem maxp_back {F v : Nat → Int} {N : Nat} (hm : numAt F 0 4 = 65536) (hE : mpE N v = 0) :
    mxE (mpF F v 7) N = 0 ∧ mxN (mpF F v 7) N 4 = v 0 ∧ mxN (mpF F v 7) N 6 = v 1 ∧ mxN (mpF F v 7) N 8 = v 2 ∧ mxN (mpF F v 7) N 10 = v 3 ∧ mxN (mpF F v 7) N 12 = v 4 ∧ mxN (mpF F v 7) N 28 = v 5 ∧ mxN (mpF F v 7) N 30 = v 6 := by
  obtain ⟨hN, hv⟩ := mp_ok hE
  have hF : mpF F v 7 = lay2 (lay2 (lay2 (lay2 (lay2 (lay2 (lay2 F 4 (v 0)) 6 (v 1)) 8 (v 2)) 10 (v 3)) 12 (v 4)) 28 (v 5)) 30 (v 6) := rfl
  have v0 := hv 0 (by omega); have v1 := hv 1 (by omega); have v2 := hv 2 (by omega); have v3 := hv 3 (by omega); have v4 := hv 4 (by omega); have v5 := hv 5 (by omega); have v6 := hv 6 (by omega)
  rw [hF]
  generalize v 0 = x0 at *
  generalize v 1 = x1 at *
  generalize v 2 = x2 at *
  generalize v 3 = x3 at *
  generalize v 4 = x4 at *
  generalize v 5 = x5 at *
  generalize v 6 = x6 at *
  clear hF hv hE
  have n0 : numAt (lay2 (lay2 (lay2 (lay2 (lay2 (lay2 (lay2 F 4 x0) 6 x1) 8 x2) 10 x3) 12 x4) 28 x5) 30 x6) 0 4 = 65536 := by
    rw [num_far _ 30 0 4 _ (by omega), num_far _ 28 0 4 _ (by omega), num_far _ 12 0 4 _ (by omega), num_far _ 10 0 4 _ (by omega), num_far _ 8 0 4 _ (by omega), num_far _ 6 0 4 _ (by omega), num_far _ 4 0 4 _ (by omega), hm]
  have e : mxE (lay2 (lay2 (lay2 (lay2 (lay2 (lay2 (lay2 F 4 x0) 6 x1) 8 x2) 10 x3) 12 x4) 28 x5) 30 x6) N = 0 := by
    unfold mxE
    rw [if_neg (by omega), n0, if_neg (by omega)]
  refine ⟨e, ?_, ?_, ?_, ?_, ?_, ?_, ?_⟩
  · unfold mxN; rw [if_pos e, num_far _ 30 4 2 _ (by omega), num_far _ 28 4 2 _ (by omega), num_far _ 12 4 2 _ (by omega), num_far _ 10 4 2 _ (by omega), num_far _ 8 4 2 _ (by omega), num_far _ 6 4 2 _ (by omega), num_lay2]; omega
  · unfold mxN; rw [if_pos e, num_far _ 30 6 2 _ (by omega), num_far _ 28 6 2 _ (by omega), num_far _ 12 6 2 _ (by omega), num_far _ 10 6 2 _ (by omega), num_far _ 8 6 2 _ (by omega), num_lay2]; omega
  · unfold mxN; rw [if_pos e, num_far _ 30 8 2 _ (by omega), num_far _ 28 8 2 _ (by omega), num_far _ 12 8 2 _ (by omega), num_far _ 10 8 2 _ (by omega), num_lay2]; omega
  · unfold mxN; rw [if_pos e, num_far _ 30 10 2 _ (by omega), num_far _ 28 10 2 _ (by omega), num_far _ 12 10 2 _ (by omega), num_lay2]; omega
  · unfold mxN; rw [if_pos e, num_far _ 30 12 2 _ (by omega), num_far _ 28 12 2 _ (by omega), num_lay2]; omega
  · unfold mxN; rw [if_pos e, num_far _ 30 28 2 _ (by omega), num_lay2]; omega
  · unfold mxN; rw [if_pos e, num_lay2]; omega

def backF (n : Nat) (f : Nat → Int) (j : Nat) : Int := if j < n then f j else 0
theorem tab_zeros (n m : Nat) (f : Nat → Int) : tab n (U8 f) ++ tab m (IntRow .u8 (fun _ => 0)) = tab (n + m) (U8 (backF n f)) := by
  rw [tab_append]
  refine tab_congr fun j hj => ?_
  unfold backF
  simp only [U8, IntRow]
  split <;> rfl
theorem own_capk {w : World} {base n g cap : Nat} {e : TypeId} {xs : List Value} (h : w.ownsRow base e 1 (.slice (some ⟨g, 0, none⟩) n cap) n xs) : n ≤ cap := by
  rcases h.2 with ⟨e1, _⟩ | ⟨_, _, _, e1, _, _, hnc, _⟩
  · cases e1
  · injection e1 with _ _ e3; omega
set_option maxRecDepth 100000 in
set_option maxHeartbeats 8000000 in
theorem walk_headback (A : Option Addr) (n q : Nat) (f : Nat → Int) (em a b c d : Int) (l : Bool) (i0 i1 i2 i3 i4 i5 i6 : Int) (w : World) (hT : Tabs w) (h : Rd w w.heap.size A n (U8 f)) (hf : ∀ j, j < n → 0 ≤ f j ∧ f j ≤ 255)
    (hem : In64 em) (ha : In64 a) (hb : In64 b) (hc : In64 c) (hd : In64 d) (k0 : In64 i0) (k1 : In64 i1) (k2 : In64 i2) (k3 : In64 i3) (k4 : In64 i4) (k5 : In64 i5) (k6 : In64 i6) (hn : n ≤ 140737488351232) :
    Calls Tryd.prog 6 #[.slice A n q, .agg #[.int .i64 em, .int .i64 a, .int .i64 b, .int .i64 c, .int .i64 d, .bool l], .agg #[.int .i64 i0, .int .i64 i1, .int .i64 i2, .int .i64 i3, .int .i64 i4, .int .i64 i5, .int .i64 i6]] w fun e w' => e = .returned (.bool true) ∧ Since w w' := by
  obtain ⟨q0, hq0, hz0, hz1, hz2⟩ := info_parts Tryd.info_u8
  have hn' : (n : Int) ≤ 140737488351232 := by omega
  have HT := Lib.hid hT
  clear hT
  by_cases hbig : (5000 : Int) < n
  · clear h
    go_enter Tryd.func6, Tryd.ntmps6
    go_wp2_with (go_at_call 8; refine (alive05 _ (HT.out.since (by (repeat (first | with_reducible (exact Since.refl _) | with_reducible assumption | with_reducible (refine Since.drew ?_) | with_reducible (refine Since.drewN ?_ _) | with_reducible (refine Since.alloc ?_ _) | (with_reducible (refine Since.setCell ?_ ?_ _); rotate_left; focus (first | (simp; done) | (simp; omega) | omega)) | (with_reducible (refine Since.trans ?_ (by with_reducible assumption))))))).b).mono ?_; rintro e w1 ⟨rfl, hS1⟩; have hT1 : Since w w1 := (by (repeat (first | with_reducible (exact Since.refl _) | with_reducible assumption | with_reducible (refine Since.drew ?_) | with_reducible (refine Since.drewN ?_ _) | with_reducible (refine Since.alloc ?_ _) | (with_reducible (refine Since.setCell ?_ ?_ _); rotate_left; focus (first | (simp; done) | (simp; omega) | omega)) | (with_reducible (refine Since.trans ?_ (by with_reducible assumption)))))))
    go_ret
    exact ⟨by first | rfl | simp, hT1⟩
  have hsm : (n : Int) ≤ 5000 := by omega
  have z1 : (n + 54) * 1 ≤ 140737488355328 := by omega
  have z2 : n + 54 ≤ maxLen := by simp only [maxLen]; omega
  have r0 : ∀ j, j < n + 54 → 0 ≤ backF n f j ∧ backF n f j ≤ 255 := fun j hj => by
    unfold backF
    split
    · exact hf j (by assumption)
    · omega
  obtain ⟨F0, hF0⟩ : ∃ F, backF n f = F := ⟨_, rfl⟩
  rw [hF0] at r0
  obtain ⟨F1, hF1⟩ : ∃ F, over4 12 (95 : UInt8).toNat (15 : UInt8).toNat (60 : UInt8).toNat (245 : UInt8).toNat F0 = F := ⟨_, rfl⟩
  have r1 : ∀ j, j < n + 54 → 0 ≤ F1 j ∧ F1 j ≤ 255 := by rw [← hF1]; exact over4_range (by decide) (by decide) (by decide) (by decide) r0
  have m1 : numAt F1 12 4 = 1594834165 := by rw [← hF1, over4_num]; decide
  obtain ⟨F2, hF2⟩ : ∃ F, over4 0 (0 : UInt8).toNat (1 : UInt8).toNat (0 : UInt8).toNat (0 : UInt8).toNat F1 = F := ⟨_, rfl⟩
  have r2 : ∀ j, j < n + 54 → 0 ≤ F2 j ∧ F2 j ≤ 255 := by rw [← hF2]; exact over4_range (by decide) (by decide) (by decide) (by decide) r1
  have m2 : numAt F2 0 4 = 65536 := by rw [← hF2, over4_num]; decide
  have HF0 := Lib.hid hF0; have HF1 := Lib.hid hF1; have HF2 := Lib.hid hF2
  clear hF0 hF1 hF2
  obtain ⟨N, hN⟩ : ∃ N, n + 54 = N := ⟨_, rfl⟩
  have hP : ∀ (g c1 : Nat) (w1 : World), TabB w1 → Row w1 g N (U8 F1) → Calls Tryd.prog 17 #[.slice (some ⟨g, 0, none⟩) N c1, .agg #[.int .i64 em, .int .i64 a, .int .i64 b, .int .i64 c, .int .i64 d, .bool l]] w1 (PhPost F1 N em a b c d l w1) := fun g c1 w1 hT hR => hd_puthead _ N c1 F1 em a b c d l w1 hT (Rd.of_row hR) hem ha hb hc hd (by omega)
  have hM : ∀ (g c1 : Nat) (w1 : World), Tabs w1 → Row w1 g N (U8 F2) → Calls Tryd.prog 19 #[.slice (some ⟨g, 0, none⟩) N c1, .agg #[.int .i64 i0, .int .i64 i1, .int .i64 i2, .int .i64 i3, .int .i64 i4, .int .i64 i5, .int .i64 i6]] w1 (MpPost F2 N (seven i0 i1 i2 i3 i4 i5 i6) w1) := fun g c1 w1 hT hR => hd_putmaxp _ N c1 F2 i0 i1 i2 i3 i4 i5 i6 w1 hT (Rd.of_row hR) k0 k1 k2 k3 k4 k5 k6 (by omega)
  have hP1 : ∀ (g c1 : Nat) (w1 : World), TabB w1 → Row w1 g N (U8 F1) → Calls Tryd.prog 17 #[.slice (some ⟨g, 0, none⟩) N c1, .agg #[.int .i64 em, .int .i64 a, .int .i64 b, .int .i64 c, .int .i64 d, .bool l]] w1 fun e w' => ∃ A' c', e = .returned (.tuple #[.slice A' (phN N em a b c d) c', .int .i64 (phE N em a b c d)]) ∧ Rd w' w'.heap.size A' (phN N em a b c d) (U8 (phF F1 em a b c d l)) ∧ Since w1 w' := fun g c1 w1 hT hR => (hP g c1 w1 hT hR).mono fun _ _ ⟨A', c', x1, x2, x3, x4⟩ => ⟨A', c', x1, x3.rd, x4⟩
  have hM1 : ∀ (g c1 : Nat) (w1 : World), Tabs w1 → Row w1 g N (U8 F2) → Calls Tryd.prog 19 #[.slice (some ⟨g, 0, none⟩) N c1, .agg #[.int .i64 i0, .int .i64 i1, .int .i64 i2, .int .i64 i3, .int .i64 i4, .int .i64 i5, .int .i64 i6]] w1 fun e w' => ∃ A' c', e = .returned (.tuple #[.slice A' (mpN N (seven i0 i1 i2 i3 i4 i5 i6)) c', .int .i64 (mpE N (seven i0 i1 i2 i3 i4 i5 i6))]) ∧ Rd w' w'.heap.size A' (mpN N (seven i0 i1 i2 i3 i4 i5 i6)) (U8 (mpF F2 (seven i0 i1 i2 i3 i4 i5 i6) 7)) ∧ Since w1 w' := fun g c1 w1 hT hR => (hM g c1 w1 hT hR).mono fun _ _ ⟨A', c', x1, x2, x3, x4⟩ => ⟨A', c', x1, x3.rd, x4⟩
  have p1 : ∀ j, j < N → 0 ≤ phF F1 em a b c d l j ∧ phF F1 em a b c d l j ≤ 255 := by unfold phF; exact lay2_range (lay2_range (lay2_range (lay2_range (lay2_range (lay2_range (by rw [← hN]; exact r1))))))
  have p2 : ∀ k j, j < N → 0 ≤ mpF F2 (seven i0 i1 i2 i3 i4 i5 i6) k j ∧ mpF F2 (seven i0 i1 i2 i3 i4 i5 i6) k j ≤ 255 := by
    intro k
    induction k with
    | zero => rw [← hN]; exact r2
    | succ k ih => exact lay2_range ih
  have hH : phE N em a b c d = 0 → phN N em a b c d = N ∧ ∀ (A1 : Option Addr) (c1 : Nat) (w1 : World), TabB w1 → Rd w1 w1.heap.size A1 N (U8 (phF F1 em a b c d l)) → Calls Tryd.prog 10 #[.slice A1 N c1] w1 fun e w' => e = .returned (.tuple #[.agg #[.int .i64 em, .int .i64 a, .int .i64 b, .int .i64 c, .int .i64 d, .bool l], .int .i64 0]) ∧ Since w1 w' := fun hE => ⟨phN_yes hE, fun A1 c1 w1 hT hR => by
    refine (hd_head A1 N c1 _ w1 hT hR p1 (by omega)).mono ?_
    rintro e w' ⟨rfl, hS⟩
    obtain ⟨y0, y1, y2, y3, y4, y5, y6⟩ := head_back (l := l) m1 hE
    rw [y0, y1, y2, y3, y4, y5, y6]
    exact ⟨rfl, hS⟩⟩
  have hX : mpE N (seven i0 i1 i2 i3 i4 i5 i6) = 0 → mpN N (seven i0 i1 i2 i3 i4 i5 i6) = N ∧ ∀ (A1 : Option Addr) (c1 : Nat) (w1 : World), Tabs w1 → Rd w1 w1.heap.size A1 N (U8 (mpF F2 (seven i0 i1 i2 i3 i4 i5 i6) 7)) → Calls Tryd.prog 11 #[.slice A1 N c1] w1 fun e w' => e = .returned (.tuple #[.agg #[.int .i64 i0, .int .i64 i1, .int .i64 i2, .int .i64 i3, .int .i64 i4, .int .i64 i5, .int .i64 i6], .int .i64 0]) ∧ Since w1 w' := fun hE => ⟨by unfold mpN; rw [if_pos hE], fun A1 c1 w1 hT hR => by
    refine (hd_maxp A1 N c1 _ w1 hT hR (p2 7) (by omega)).mono ?_
    rintro e w' ⟨rfl, hS⟩
    obtain ⟨y0, y1, y2, y3, y4, y5, y6, y7⟩ := maxp_back m2 hE
    rw [y0, y1, y2, y3, y4, y5, y6, y7]
    exact ⟨rfl, hS⟩⟩
  have hE1 := phE_cases N em a b c d
  have hE2 : mpE N (seven i0 i1 i2 i3 i4 i5 i6) = 0 ∨ mpE N (seven i0 i1 i2 i3 i4 i5 i6) = 6 := by unfold mpE; rw [if_neg (by omega)]; split <;> simp
  have hM0 : phE N em a b c d ≠ 0 → phN N em a b c d = 0 := phN_no
  have hM6 : mpE N (seven i0 i1 i2 i3 i4 i5 i6) = 6 → mpN N (seven i0 i1 i2 i3 i4 i5 i6) = 0 := fun hE => by unfold mpN; rw [if_neg (by rw [hE]; decide)]
  have HB := Lib.hid (sixb_new w (.int .i64 em) (.int .i64 a) (.int .i64 b) (.int .i64 c) (.int .i64 d) (.bool l) 26)
  have hbm := sevenb_new (w.alloc (.cells #[.int .i64 em, .int .i64 a, .int .i64 b, .int .i64 c, .int .i64 d, .bool l] 26)) (.int .i64 i0) (.int .i64 i1) (.int .i64 i2) (.int .i64 i3) (.int .i64 i4) (.int .i64 i5) (.int .i64 i6) 31
  rw [World.size_alloc] at hbm
  have HM := Lib.hid hbm
  generalize phE N em a b c d = E1 at *
  generalize phN N em a b c d = M1 at *
  generalize phF F1 em a b c d l = G1 at *
  generalize mpE N (seven i0 i1 i2 i3 i4 i5 i6) = E2 at *
  generalize mpN N (seven i0 i1 i2 i3 i4 i5 i6) = M2 at *
  generalize mpF F2 (seven i0 i1 i2 i3 i4 i5 i6) 7 = G2 at *
  have hN1 : 54 ≤ N := by omega
  have hN2 : N ≤ 5054 := by omega
  have HN := Lib.hid hN
  have HP := Lib.hid hP1; have HQ := Lib.hid hM1
  clear hP hM hP1 hM1 p1 p2 r0 r1 r2 m1 m2 hbm hN
  rcases hE1 with hE1 | hE1 | hE1 <;> rcases hE2 with hE2 | hE2 <;> subst hE1 <;> subst hE2
  · obtain ⟨hM1', hH'⟩ := hH rfl
    replace hM1' := hM1'.symm
    obtain ⟨hM2', hX'⟩ := hX rfl
    replace hM2' := hM2'.symm
    have HH := Lib.hid hH'
    clear hH'
    have HX := Lib.hid hX'
    clear hX'
    clear hH hX hM0 hM6
    subst hM1'
    subst hM2'
    have tok1 := True.intro
    go_enter Tryd.func6, Tryd.ntmps6
    go_wp2_with (first | (go_at_call 8; refine (alive05 _ (HT.out.since (by (repeat (first | with_reducible (exact Since.refl _) | with_reducible assumption | with_reducible (refine Since.drew ?_) | with_reducible (refine Since.drewN ?_ _) | with_reducible (refine Since.alloc ?_ _) | (with_reducible (refine Since.setCell ?_ ?_ _); rotate_left; focus (first | (simp; done) | (simp; omega) | omega)) | (with_reducible (refine Since.trans ?_ (by with_reducible assumption))))))).b).mono ?_; rintro e w1 ⟨rfl, hS1⟩; have hT1 : Since w w1 := (by (repeat (first | with_reducible (exact Since.refl _) | with_reducible assumption | with_reducible (refine Since.drew ?_) | with_reducible (refine Since.drewN ?_ _) | with_reducible (refine Since.alloc ?_ _) | (with_reducible (refine Since.setCell ?_ ?_ _); rotate_left; focus (first | (simp; done) | (simp; omega) | omega)) | (with_reducible (refine Since.trans ?_ (by with_reducible assumption)))))); have h1 := h.on hT1; have hb1 := HB.out.since (Since.trans (Since.alloc (Since.refl _) _) hS1); have hm1 := HM.out.since hS1) | (go_at_call 9; refine (ref_copy A n q f _ h1 (by omega)).mono ?_; rintro e w2 ⟨g2, cap, rfl, hown, hS2⟩; have hO := Lib.hid hown; have hg2 := hown.base; have hgl := hown.row.2.2; have hsz := hS2.below.size; clear hown) | (at_builtin; have _t := tok1; refine wpList_append_zeros _ (by rfl) _ _ _ _ (by rfl) w1.heap.size 5 q0 .u8 1 Tryd.underlying22 Tryd.underlying3 hq0 hz0 hz1 hz2 g2 cap n 54 (U8 f) (by rfl) (by rfl) hO.out z1 z2 hsz ?_; intro g3 c3 w3 hown3 hgr3 hat3; rw [tab_zeros, HF0.out] at hown3; have hr3 := row_of_own hown3; have hg3 : w1.heap.size ≤ g3 := own_base hown3; have hcp3 : n + 54 ≤ c3 := own_capk hown3; have hS13 : Since w1 w3 := since_grown hS2 hgr3 (fun k hk => by injection hk with hk; omega); rw [HN.out] at hr3 hcp3; rw [HN.out]; have hb3 := hb1.since hS13; have hm3 := hm1.since hS13; have hT3 := hT1.trans hS13; have hcne : ¬ c3 = 12 := (by omega); clear hown3 hgr3 hat3 tok1 hO hg2 hgl hsz hS2 h1 hb3 hm3; have tok2 := True.intro) | (have _t := tok2; refine wpList_copy_str ?_ (.tmp 23) (.const (.string { data := #[95, 15, 60, 245] })) 22 9 ?_ 5 Tryd.underlying22 Tryd.size_u8' g3 12 (N - 12) (c3 - 12) N (U8 F0) { data := #[95, 15, 60, 245] } ?_ ?_ hr3 ?_ ?_ w1 hS13 hg3 ?_; (focus rfl); (focus rfl); (focus rfl); (focus rfl); (focus (show (4 : Nat) ≤ _; omega)); (focus (show 12 + 4 ≤ N; omega)); intro w4 hr4 hS14; have hr4' := hr4.congr (fun j _ => over4_row rfl F0 12 j); rw [HF1.out] at hr4'; have hR4 := hr4'; have hT4 := hT1.trans hS14; have hb4 := hb1.since hS14; clear hr3 hr4 hr4' hS13 hT3 tok2 hb1; obtain ⟨b0, b1, b2, b3, b4, b5, b6⟩ := hb4; have tok3 := True.intro) | (go_at_call 17; (with_reducible refine (HP.out _ _ _ (HT.out.since hT4).b hR4).mono ?_); rintro e w5 ⟨A5, c5, rfl, hI5, hS5⟩; have hT5 := hT4.trans hS5; have hR5 := hR4.since hS5; have hS15 := hS14.trans hS5; have hB5 := SixB.since ⟨b0, b1, b2, b3, b4, b5, b6⟩ hS5; clear b0 b1 b2 b3 b4 b5 b6 hR4 hT4 hS14; obtain ⟨b0, b1, b2, b3, b4, b5, b6⟩ := hB5) | (go_at_call 10; (with_reducible refine (HH.out _ _ _ (HT.out.since hT5).b hI5).mono ?_); rintro e w6 ⟨rfl, hS6⟩; have hT6 := hT5.trans hS6; have hR6 := hR5.since hS6; have hS16 := hS15.trans hS6; have hB6 := SixB.since ⟨b0, b1, b2, b3, b4, b5, b6⟩ hS6; clear b0 b1 b2 b3 b4 b5 b6 hR5 hT5 hS15 hI5; obtain ⟨b0, b1, b2, b3, b4, b5, b6⟩ := hB6) | (have _t := tok3; refine wpList_copy_str ?_ (.tmp 45) (.const (.string { data := #[0, 1, 0, 0] })) 22 9 ?_ 5 Tryd.underlying22 Tryd.size_u8' g3 0 N c3 N (U8 F1) { data := #[0, 1, 0, 0] } ?_ ?_ ?_ ?_ ?_ w1 ?_ hg3 ?_; (focus rfl); (focus rfl); (focus rfl); (focus rfl); (focus (repeat (first | with_reducible assumption | with_reducible (refine Row.drewN ?_ _) | with_reducible (refine Row.drew ?_) | with_reducible (refine Row.alloc ?_ _) | (with_reducible (refine Row.far ?_ ?_ _ _); rotate_left; focus (first | (simp; done) | (simp; omega) | omega)) | with_reducible (refine Row.since ?_ (by with_reducible assumption))))); (focus (show (4 : Nat) ≤ _; omega)); (focus (show 0 + 4 ≤ N; omega)); (focus (repeat (first | with_reducible (exact Since.refl _) | with_reducible assumption | with_reducible (refine Since.drew ?_) | with_reducible (refine Since.drewN ?_ _) | with_reducible (refine Since.alloc ?_ _) | (with_reducible (refine Since.setCell ?_ ?_ _); rotate_left; focus (first | (simp; done) | (simp; omega) | omega)) | (with_reducible (refine Since.trans ?_ (by with_reducible assumption)))))); intro w7 hr7 hS17; have hr7' := hr7.congr (fun j _ => over4_row rfl F1 0 j); rw [HF2.out] at hr7'; have hR7 := hr7'; have hT7 := hT1.trans hS17; have hm7 := hm1.since hS17; clear hr7 hr7' tok3 b0 b1 b2 b3 b4 b5 b6; (try clear hR5 hS15); (try clear hR6 hS16); obtain ⟨b0, b1, b2, b3, b4, b5, b6, b7⟩ := hm7; have tok4 := True.intro) | (go_at_call 19; (with_reducible refine (HQ.out _ _ _ (HT.out.since hT7) hR7).mono ?_); rintro e w8 ⟨A8, c8, rfl, hI8, hS8⟩; have hT8 := hT7.trans hS8; have hB8 := SevenB.since ⟨b0, b1, b2, b3, b4, b5, b6, b7⟩ hS8; clear b0 b1 b2 b3 b4 b5 b6 b7 hR7 hT7; obtain ⟨b0, b1, b2, b3, b4, b5, b6, b7⟩ := hB8) | (go_at_call 11; (with_reducible refine (HX.out _ _ _ (HT.out.since hT8) hI8).mono ?_); rintro e w9 ⟨rfl, hS9⟩; have hT9 := hT8.trans hS9; have hB9 := SevenB.since ⟨b0, b1, b2, b3, b4, b5, b6, b7⟩ hS9; clear b0 b1 b2 b3 b4 b5 b6 b7 hT8 hI8; obtain ⟨b0, b1, b2, b3, b4, b5, b6, b7⟩ := hB9))
    go_ret
    exact ⟨by first | rfl | simp, by (repeat (first | with_reducible (exact Since.refl _) | with_reducible assumption | with_reducible (refine Since.drew ?_) | with_reducible (refine Since.drewN ?_ _) | with_reducible (refine Since.alloc ?_ _) | (with_reducible (refine Since.setCell ?_ ?_ _); rotate_left; focus (first | (simp; done) | (simp; omega) | omega)) | (with_reducible (refine Since.trans ?_ (by with_reducible assumption)))))⟩
  · obtain ⟨hM1', hH'⟩ := hH rfl
    replace hM1' := hM1'.symm
    have hM2' := hM6 rfl
    have HH := Lib.hid hH'
    clear hH'
    clear hH hX hM0 hM6
    subst hM1'
    subst hM2'
    have tok1 := True.intro
    go_enter Tryd.func6, Tryd.ntmps6
    go_wp2_with (first | (go_at_call 8; refine (alive05 _ (HT.out.since (by (repeat (first | with_reducible (exact Since.refl _) | with_reducible assumption | with_reducible (refine Since.drew ?_) | with_reducible (refine Since.drewN ?_ _) | with_reducible (refine Since.alloc ?_ _) | (with_reducible (refine Since.setCell ?_ ?_ _); rotate_left; focus (first | (simp; done) | (simp; omega) | omega)) | (with_reducible (refine Since.trans ?_ (by with_reducible assumption))))))).b).mono ?_; rintro e w1 ⟨rfl, hS1⟩; have hT1 : Since w w1 := (by (repeat (first | with_reducible (exact Since.refl _) | with_reducible assumption | with_reducible (refine Since.drew ?_) | with_reducible (refine Since.drewN ?_ _) | with_reducible (refine Since.alloc ?_ _) | (with_reducible (refine Since.setCell ?_ ?_ _); rotate_left; focus (first | (simp; done) | (simp; omega) | omega)) | (with_reducible (refine Since.trans ?_ (by with_reducible assumption)))))); have h1 := h.on hT1; have hb1 := HB.out.since (Since.trans (Since.alloc (Since.refl _) _) hS1); have hm1 := HM.out.since hS1) | (go_at_call 9; refine (ref_copy A n q f _ h1 (by omega)).mono ?_; rintro e w2 ⟨g2, cap, rfl, hown, hS2⟩; have hO := Lib.hid hown; have hg2 := hown.base; have hgl := hown.row.2.2; have hsz := hS2.below.size; clear hown) | (at_builtin; have _t := tok1; refine wpList_append_zeros _ (by rfl) _ _ _ _ (by rfl) w1.heap.size 5 q0 .u8 1 Tryd.underlying22 Tryd.underlying3 hq0 hz0 hz1 hz2 g2 cap n 54 (U8 f) (by rfl) (by rfl) hO.out z1 z2 hsz ?_; intro g3 c3 w3 hown3 hgr3 hat3; rw [tab_zeros, HF0.out] at hown3; have hr3 := row_of_own hown3; have hg3 : w1.heap.size ≤ g3 := own_base hown3; have hcp3 : n + 54 ≤ c3 := own_capk hown3; have hS13 : Since w1 w3 := since_grown hS2 hgr3 (fun k hk => by injection hk with hk; omega); rw [HN.out] at hr3 hcp3; rw [HN.out]; have hb3 := hb1.since hS13; have hm3 := hm1.since hS13; have hT3 := hT1.trans hS13; have hcne : ¬ c3 = 12 := (by omega); clear hown3 hgr3 hat3 tok1 hO hg2 hgl hsz hS2 h1 hb3 hm3; have tok2 := True.intro) | (have _t := tok2; refine wpList_copy_str ?_ (.tmp 23) (.const (.string { data := #[95, 15, 60, 245] })) 22 9 ?_ 5 Tryd.underlying22 Tryd.size_u8' g3 12 (N - 12) (c3 - 12) N (U8 F0) { data := #[95, 15, 60, 245] } ?_ ?_ hr3 ?_ ?_ w1 hS13 hg3 ?_; (focus rfl); (focus rfl); (focus rfl); (focus rfl); (focus (show (4 : Nat) ≤ _; omega)); (focus (show 12 + 4 ≤ N; omega)); intro w4 hr4 hS14; have hr4' := hr4.congr (fun j _ => over4_row rfl F0 12 j); rw [HF1.out] at hr4'; have hR4 := hr4'; have hT4 := hT1.trans hS14; have hb4 := hb1.since hS14; clear hr3 hr4 hr4' hS13 hT3 tok2 hb1; obtain ⟨b0, b1, b2, b3, b4, b5, b6⟩ := hb4; have tok3 := True.intro) | (go_at_call 17; (with_reducible refine (HP.out _ _ _ (HT.out.since hT4).b hR4).mono ?_); rintro e w5 ⟨A5, c5, rfl, hI5, hS5⟩; have hT5 := hT4.trans hS5; have hR5 := hR4.since hS5; have hS15 := hS14.trans hS5; have hB5 := SixB.since ⟨b0, b1, b2, b3, b4, b5, b6⟩ hS5; clear b0 b1 b2 b3 b4 b5 b6 hR4 hT4 hS14; obtain ⟨b0, b1, b2, b3, b4, b5, b6⟩ := hB5) | (go_at_call 10; (with_reducible refine (HH.out _ _ _ (HT.out.since hT5).b hI5).mono ?_); rintro e w6 ⟨rfl, hS6⟩; have hT6 := hT5.trans hS6; have hR6 := hR5.since hS6; have hS16 := hS15.trans hS6; have hB6 := SixB.since ⟨b0, b1, b2, b3, b4, b5, b6⟩ hS6; clear b0 b1 b2 b3 b4 b5 b6 hR5 hT5 hS15 hI5; obtain ⟨b0, b1, b2, b3, b4, b5, b6⟩ := hB6) | (have _t := tok3; refine wpList_copy_str ?_ (.tmp 45) (.const (.string { data := #[0, 1, 0, 0] })) 22 9 ?_ 5 Tryd.underlying22 Tryd.size_u8' g3 0 N c3 N (U8 F1) { data := #[0, 1, 0, 0] } ?_ ?_ ?_ ?_ ?_ w1 ?_ hg3 ?_; (focus rfl); (focus rfl); (focus rfl); (focus rfl); (focus (repeat (first | with_reducible assumption | with_reducible (refine Row.drewN ?_ _) | with_reducible (refine Row.drew ?_) | with_reducible (refine Row.alloc ?_ _) | (with_reducible (refine Row.far ?_ ?_ _ _); rotate_left; focus (first | (simp; done) | (simp; omega) | omega)) | with_reducible (refine Row.since ?_ (by with_reducible assumption))))); (focus (show (4 : Nat) ≤ _; omega)); (focus (show 0 + 4 ≤ N; omega)); (focus (repeat (first | with_reducible (exact Since.refl _) | with_reducible assumption | with_reducible (refine Since.drew ?_) | with_reducible (refine Since.drewN ?_ _) | with_reducible (refine Since.alloc ?_ _) | (with_reducible (refine Since.setCell ?_ ?_ _); rotate_left; focus (first | (simp; done) | (simp; omega) | omega)) | (with_reducible (refine Since.trans ?_ (by with_reducible assumption)))))); intro w7 hr7 hS17; have hr7' := hr7.congr (fun j _ => over4_row rfl F1 0 j); rw [HF2.out] at hr7'; have hR7 := hr7'; have hT7 := hT1.trans hS17; have hm7 := hm1.since hS17; clear hr7 hr7' tok3 b0 b1 b2 b3 b4 b5 b6; (try clear hR5 hS15); (try clear hR6 hS16); obtain ⟨b0, b1, b2, b3, b4, b5, b6, b7⟩ := hm7; have tok4 := True.intro) | (go_at_call 19; (with_reducible refine (HQ.out _ _ _ (HT.out.since hT7) hR7).mono ?_); rintro e w8 ⟨A8, c8, rfl, hI8, hS8⟩; have hT8 := hT7.trans hS8; have hB8 := SevenB.since ⟨b0, b1, b2, b3, b4, b5, b6, b7⟩ hS8; clear b0 b1 b2 b3 b4 b5 b6 b7 hR7 hT7; obtain ⟨b0, b1, b2, b3, b4, b5, b6, b7⟩ := hB8) | (go_at_call 11; (with_reducible refine (HX.out _ _ _ (HT.out.since hT8) hI8).mono ?_); rintro e w9 ⟨rfl, hS9⟩; have hT9 := hT8.trans hS9; have hB9 := SevenB.since ⟨b0, b1, b2, b3, b4, b5, b6, b7⟩ hS9; clear b0 b1 b2 b3 b4 b5 b6 b7 hT8 hI8; obtain ⟨b0, b1, b2, b3, b4, b5, b6, b7⟩ := hB9))
    go_ret
    exact ⟨by first | rfl | simp, by (repeat (first | with_reducible (exact Since.refl _) | with_reducible assumption | with_reducible (refine Since.drew ?_) | with_reducible (refine Since.drewN ?_ _) | with_reducible (refine Since.alloc ?_ _) | (with_reducible (refine Since.setCell ?_ ?_ _); rotate_left; focus (first | (simp; done) | (simp; omega) | omega)) | (with_reducible (refine Since.trans ?_ (by with_reducible assumption)))))⟩
  · have hM1' := hM0 (by decide)
    obtain ⟨hM2', hX'⟩ := hX rfl
    replace hM2' := hM2'.symm
    have HX := Lib.hid hX'
    clear hX'
    clear hH hX hM0 hM6
    subst hM1'
    subst hM2'
    have tok1 := True.intro
    go_enter Tryd.func6, Tryd.ntmps6
    go_wp2_with (first | (go_at_call 8; refine (alive05 _ (HT.out.since (by (repeat (first | with_reducible (exact Since.refl _) | with_reducible assumption | with_reducible (refine Since.drew ?_) | with_reducible (refine Since.drewN ?_ _) | with_reducible (refine Since.alloc ?_ _) | (with_reducible (refine Since.setCell ?_ ?_ _); rotate_left; focus (first | (simp; done) | (simp; omega) | omega)) | (with_reducible (refine Since.trans ?_ (by with_reducible assumption))))))).b).mono ?_; rintro e w1 ⟨rfl, hS1⟩; have hT1 : Since w w1 := (by (repeat (first | with_reducible (exact Since.refl _) | with_reducible assumption | with_reducible (refine Since.drew ?_) | with_reducible (refine Since.drewN ?_ _) | with_reducible (refine Since.alloc ?_ _) | (with_reducible (refine Since.setCell ?_ ?_ _); rotate_left; focus (first | (simp; done) | (simp; omega) | omega)) | (with_reducible (refine Since.trans ?_ (by with_reducible assumption)))))); have h1 := h.on hT1; have hb1 := HB.out.since (Since.trans (Since.alloc (Since.refl _) _) hS1); have hm1 := HM.out.since hS1) | (go_at_call 9; refine (ref_copy A n q f _ h1 (by omega)).mono ?_; rintro e w2 ⟨g2, cap, rfl, hown, hS2⟩; have hO := Lib.hid hown; have hg2 := hown.base; have hgl := hown.row.2.2; have hsz := hS2.below.size; clear hown) | (at_builtin; have _t := tok1; refine wpList_append_zeros _ (by rfl) _ _ _ _ (by rfl) w1.heap.size 5 q0 .u8 1 Tryd.underlying22 Tryd.underlying3 hq0 hz0 hz1 hz2 g2 cap n 54 (U8 f) (by rfl) (by rfl) hO.out z1 z2 hsz ?_; intro g3 c3 w3 hown3 hgr3 hat3; rw [tab_zeros, HF0.out] at hown3; have hr3 := row_of_own hown3; have hg3 : w1.heap.size ≤ g3 := own_base hown3; have hcp3 : n + 54 ≤ c3 := own_capk hown3; have hS13 : Since w1 w3 := since_grown hS2 hgr3 (fun k hk => by injection hk with hk; omega); rw [HN.out] at hr3 hcp3; rw [HN.out]; have hb3 := hb1.since hS13; have hm3 := hm1.since hS13; have hT3 := hT1.trans hS13; have hcne : ¬ c3 = 12 := (by omega); clear hown3 hgr3 hat3 tok1 hO hg2 hgl hsz hS2 h1 hb3 hm3; have tok2 := True.intro) | (have _t := tok2; refine wpList_copy_str ?_ (.tmp 23) (.const (.string { data := #[95, 15, 60, 245] })) 22 9 ?_ 5 Tryd.underlying22 Tryd.size_u8' g3 12 (N - 12) (c3 - 12) N (U8 F0) { data := #[95, 15, 60, 245] } ?_ ?_ hr3 ?_ ?_ w1 hS13 hg3 ?_; (focus rfl); (focus rfl); (focus rfl); (focus rfl); (focus (show (4 : Nat) ≤ _; omega)); (focus (show 12 + 4 ≤ N; omega)); intro w4 hr4 hS14; have hr4' := hr4.congr (fun j _ => over4_row rfl F0 12 j); rw [HF1.out] at hr4'; have hR4 := hr4'; have hT4 := hT1.trans hS14; have hb4 := hb1.since hS14; clear hr3 hr4 hr4' hS13 hT3 tok2 hb1; obtain ⟨b0, b1, b2, b3, b4, b5, b6⟩ := hb4; have tok3 := True.intro) | (go_at_call 17; (with_reducible refine (HP.out _ _ _ (HT.out.since hT4).b hR4).mono ?_); rintro e w5 ⟨A5, c5, rfl, hI5, hS5⟩; have hT5 := hT4.trans hS5; have hR5 := hR4.since hS5; have hS15 := hS14.trans hS5; have hB5 := SixB.since ⟨b0, b1, b2, b3, b4, b5, b6⟩ hS5; clear b0 b1 b2 b3 b4 b5 b6 hR4 hT4 hS14; obtain ⟨b0, b1, b2, b3, b4, b5, b6⟩ := hB5) | (go_at_call 10; (with_reducible refine (HH.out _ _ _ (HT.out.since hT5).b hI5).mono ?_); rintro e w6 ⟨rfl, hS6⟩; have hT6 := hT5.trans hS6; have hR6 := hR5.since hS6; have hS16 := hS15.trans hS6; have hB6 := SixB.since ⟨b0, b1, b2, b3, b4, b5, b6⟩ hS6; clear b0 b1 b2 b3 b4 b5 b6 hR5 hT5 hS15 hI5; obtain ⟨b0, b1, b2, b3, b4, b5, b6⟩ := hB6) | (have _t := tok3; refine wpList_copy_str ?_ (.tmp 45) (.const (.string { data := #[0, 1, 0, 0] })) 22 9 ?_ 5 Tryd.underlying22 Tryd.size_u8' g3 0 N c3 N (U8 F1) { data := #[0, 1, 0, 0] } ?_ ?_ ?_ ?_ ?_ w1 ?_ hg3 ?_; (focus rfl); (focus rfl); (focus rfl); (focus rfl); (focus (repeat (first | with_reducible assumption | with_reducible (refine Row.drewN ?_ _) | with_reducible (refine Row.drew ?_) | with_reducible (refine Row.alloc ?_ _) | (with_reducible (refine Row.far ?_ ?_ _ _); rotate_left; focus (first | (simp; done) | (simp; omega) | omega)) | with_reducible (refine Row.since ?_ (by with_reducible assumption))))); (focus (show (4 : Nat) ≤ _; omega)); (focus (show 0 + 4 ≤ N; omega)); (focus (repeat (first | with_reducible (exact Since.refl _) | with_reducible assumption | with_reducible (refine Since.drew ?_) | with_reducible (refine Since.drewN ?_ _) | with_reducible (refine Since.alloc ?_ _) | (with_reducible (refine Since.setCell ?_ ?_ _); rotate_left; focus (first | (simp; done) | (simp; omega) | omega)) | (with_reducible (refine Since.trans ?_ (by with_reducible assumption)))))); intro w7 hr7 hS17; have hr7' := hr7.congr (fun j _ => over4_row rfl F1 0 j); rw [HF2.out] at hr7'; have hR7 := hr7'; have hT7 := hT1.trans hS17; have hm7 := hm1.since hS17; clear hr7 hr7' tok3 b0 b1 b2 b3 b4 b5 b6; (try clear hR5 hS15); (try clear hR6 hS16); obtain ⟨b0, b1, b2, b3, b4, b5, b6, b7⟩ := hm7; have tok4 := True.intro) | (go_at_call 19; (with_reducible refine (HQ.out _ _ _ (HT.out.since hT7) hR7).mono ?_); rintro e w8 ⟨A8, c8, rfl, hI8, hS8⟩; have hT8 := hT7.trans hS8; have hB8 := SevenB.since ⟨b0, b1, b2, b3, b4, b5, b6, b7⟩ hS8; clear b0 b1 b2 b3 b4 b5 b6 b7 hR7 hT7; obtain ⟨b0, b1, b2, b3, b4, b5, b6, b7⟩ := hB8) | (go_at_call 11; (with_reducible refine (HX.out _ _ _ (HT.out.since hT8) hI8).mono ?_); rintro e w9 ⟨rfl, hS9⟩; have hT9 := hT8.trans hS9; have hB9 := SevenB.since ⟨b0, b1, b2, b3, b4, b5, b6, b7⟩ hS9; clear b0 b1 b2 b3 b4 b5 b6 b7 hT8 hI8; obtain ⟨b0, b1, b2, b3, b4, b5, b6, b7⟩ := hB9))
    go_ret
    exact ⟨by first | rfl | simp, by (repeat (first | with_reducible (exact Since.refl _) | with_reducible assumption | with_reducible (refine Since.drew ?_) | with_reducible (refine Since.drewN ?_ _) | with_reducible (refine Since.alloc ?_ _) | (with_reducible (refine Since.setCell ?_ ?_ _); rotate_left; focus (first | (simp; done) | (simp; omega) | omega)) | (with_reducible (refine Since.trans ?_ (by with_reducible assumption)))))⟩
  · have hM1' := hM0 (by decide)
    have hM2' := hM6 rfl
    clear hH hX hM0 hM6
    subst hM1'
    subst hM2'
    have tok1 := True.intro
    go_enter Tryd.func6, Tryd.ntmps6
    go_wp2_with (first | (go_at_call 8; refine (alive05 _ (HT.out.since (by (repeat (first | with_reducible (exact Since.refl _) | with_reducible assumption | with_reducible (refine Since.drew ?_) | with_reducible (refine Since.drewN ?_ _) | with_reducible (refine Since.alloc ?_ _) | (with_reducible (refine Since.setCell ?_ ?_ _); rotate_left; focus (first | (simp; done) | (simp; omega) | omega)) | (with_reducible (refine Since.trans ?_ (by with_reducible assumption))))))).b).mono ?_; rintro e w1 ⟨rfl, hS1⟩; have hT1 : Since w w1 := (by (repeat (first | with_reducible (exact Since.refl _) | with_reducible assumption | with_reducible (refine Since.drew ?_) | with_reducible (refine Since.drewN ?_ _) | with_reducible (refine Since.alloc ?_ _) | (with_reducible (refine Since.setCell ?_ ?_ _); rotate_left; focus (first | (simp; done) | (simp; omega) | omega)) | (with_reducible (refine Since.trans ?_ (by with_reducible assumption)))))); have h1 := h.on hT1; have hb1 := HB.out.since (Since.trans (Since.alloc (Since.refl _) _) hS1); have hm1 := HM.out.since hS1) | (go_at_call 9; refine (ref_copy A n q f _ h1 (by omega)).mono ?_; rintro e w2 ⟨g2, cap, rfl, hown, hS2⟩; have hO := Lib.hid hown; have hg2 := hown.base; have hgl := hown.row.2.2; have hsz := hS2.below.size; clear hown) | (at_builtin; have _t := tok1; refine wpList_append_zeros _ (by rfl) _ _ _ _ (by rfl) w1.heap.size 5 q0 .u8 1 Tryd.underlying22 Tryd.underlying3 hq0 hz0 hz1 hz2 g2 cap n 54 (U8 f) (by rfl) (by rfl) hO.out z1 z2 hsz ?_; intro g3 c3 w3 hown3 hgr3 hat3; rw [tab_zeros, HF0.out] at hown3; have hr3 := row_of_own hown3; have hg3 : w1.heap.size ≤ g3 := own_base hown3; have hcp3 : n + 54 ≤ c3 := own_capk hown3; have hS13 : Since w1 w3 := since_grown hS2 hgr3 (fun k hk => by injection hk with hk; omega); rw [HN.out] at hr3 hcp3; rw [HN.out]; have hb3 := hb1.since hS13; have hm3 := hm1.since hS13; have hT3 := hT1.trans hS13; have hcne : ¬ c3 = 12 := (by omega); clear hown3 hgr3 hat3 tok1 hO hg2 hgl hsz hS2 h1 hb3 hm3; have tok2 := True.intro) | (have _t := tok2; refine wpList_copy_str ?_ (.tmp 23) (.const (.string { data := #[95, 15, 60, 245] })) 22 9 ?_ 5 Tryd.underlying22 Tryd.size_u8' g3 12 (N - 12) (c3 - 12) N (U8 F0) { data := #[95, 15, 60, 245] } ?_ ?_ hr3 ?_ ?_ w1 hS13 hg3 ?_; (focus rfl); (focus rfl); (focus rfl); (focus rfl); (focus (show (4 : Nat) ≤ _; omega)); (focus (show 12 + 4 ≤ N; omega)); intro w4 hr4 hS14; have hr4' := hr4.congr (fun j _ => over4_row rfl F0 12 j); rw [HF1.out] at hr4'; have hR4 := hr4'; have hT4 := hT1.trans hS14; have hb4 := hb1.since hS14; clear hr3 hr4 hr4' hS13 hT3 tok2 hb1; obtain ⟨b0, b1, b2, b3, b4, b5, b6⟩ := hb4; have tok3 := True.intro) | (go_at_call 17; (with_reducible refine (HP.out _ _ _ (HT.out.since hT4).b hR4).mono ?_); rintro e w5 ⟨A5, c5, rfl, hI5, hS5⟩; have hT5 := hT4.trans hS5; have hR5 := hR4.since hS5; have hS15 := hS14.trans hS5; have hB5 := SixB.since ⟨b0, b1, b2, b3, b4, b5, b6⟩ hS5; clear b0 b1 b2 b3 b4 b5 b6 hR4 hT4 hS14; obtain ⟨b0, b1, b2, b3, b4, b5, b6⟩ := hB5) | (go_at_call 10; (with_reducible refine (HH.out _ _ _ (HT.out.since hT5).b hI5).mono ?_); rintro e w6 ⟨rfl, hS6⟩; have hT6 := hT5.trans hS6; have hR6 := hR5.since hS6; have hS16 := hS15.trans hS6; have hB6 := SixB.since ⟨b0, b1, b2, b3, b4, b5, b6⟩ hS6; clear b0 b1 b2 b3 b4 b5 b6 hR5 hT5 hS15 hI5; obtain ⟨b0, b1, b2, b3, b4, b5, b6⟩ := hB6) | (have _t := tok3; refine wpList_copy_str ?_ (.tmp 45) (.const (.string { data := #[0, 1, 0, 0] })) 22 9 ?_ 5 Tryd.underlying22 Tryd.size_u8' g3 0 N c3 N (U8 F1) { data := #[0, 1, 0, 0] } ?_ ?_ ?_ ?_ ?_ w1 ?_ hg3 ?_; (focus rfl); (focus rfl); (focus rfl); (focus rfl); (focus (repeat (first | with_reducible assumption | with_reducible (refine Row.drewN ?_ _) | with_reducible (refine Row.drew ?_) | with_reducible (refine Row.alloc ?_ _) | (with_reducible (refine Row.far ?_ ?_ _ _); rotate_left; focus (first | (simp; done) | (simp; omega) | omega)) | with_reducible (refine Row.since ?_ (by with_reducible assumption))))); (focus (show (4 : Nat) ≤ _; omega)); (focus (show 0 + 4 ≤ N; omega)); (focus (repeat (first | with_reducible (exact Since.refl _) | with_reducible assumption | with_reducible (refine Since.drew ?_) | with_reducible (refine Since.drewN ?_ _) | with_reducible (refine Since.alloc ?_ _) | (with_reducible (refine Since.setCell ?_ ?_ _); rotate_left; focus (first | (simp; done) | (simp; omega) | omega)) | (with_reducible (refine Since.trans ?_ (by with_reducible assumption)))))); intro w7 hr7 hS17; have hr7' := hr7.congr (fun j _ => over4_row rfl F1 0 j); rw [HF2.out] at hr7'; have hR7 := hr7'; have hT7 := hT1.trans hS17; have hm7 := hm1.since hS17; clear hr7 hr7' tok3 b0 b1 b2 b3 b4 b5 b6; (try clear hR5 hS15); (try clear hR6 hS16); obtain ⟨b0, b1, b2, b3, b4, b5, b6, b7⟩ := hm7; have tok4 := True.intro) | (go_at_call 19; (with_reducible refine (HQ.out _ _ _ (HT.out.since hT7) hR7).mono ?_); rintro e w8 ⟨A8, c8, rfl, hI8, hS8⟩; have hT8 := hT7.trans hS8; have hB8 := SevenB.since ⟨b0, b1, b2, b3, b4, b5, b6, b7⟩ hS8; clear b0 b1 b2 b3 b4 b5 b6 b7 hR7 hT7; obtain ⟨b0, b1, b2, b3, b4, b5, b6, b7⟩ := hB8) | (go_at_call 11; (with_reducible refine (HX.out _ _ _ (HT.out.since hT8) hI8).mono ?_); rintro e w9 ⟨rfl, hS9⟩; have hT9 := hT8.trans hS9; have hB9 := SevenB.since ⟨b0, b1, b2, b3, b4, b5, b6, b7⟩ hS9; clear b0 b1 b2 b3 b4 b5 b6 b7 hT8 hI8; obtain ⟨b0, b1, b2, b3, b4, b5, b6, b7⟩ := hB9))
    go_ret
    exact ⟨by first | rfl | simp, by (repeat (first | with_reducible (exact Since.refl _) | with_reducible assumption | with_reducible (refine Since.drew ?_) | with_reducible (refine Since.drewN ?_ _) | with_reducible (refine Since.alloc ?_ _) | (with_reducible (refine Since.setCell ?_ ?_ _); rotate_left; focus (first | (simp; done) | (simp; omega) | omega)) | (with_reducible (refine Since.trans ?_ (by with_reducible assumption)))))⟩
  · have hM1' := hM0 (by decide)
    obtain ⟨hM2', hX'⟩ := hX rfl
    replace hM2' := hM2'.symm
    have HX := Lib.hid hX'
    clear hX'
    clear hH hX hM0 hM6
    subst hM1'
    subst hM2'
    have tok1 := True.intro
    go_enter Tryd.func6, Tryd.ntmps6
    go_wp2_with (first | (go_at_call 8; refine (alive05 _ (HT.out.since (by (repeat (first | with_reducible (exact Since.refl _) | with_reducible assumption | with_reducible (refine Since.drew ?_) | with_reducible (refine Since.drewN ?_ _) | with_reducible (refine Since.alloc ?_ _) | (with_reducible (refine Since.setCell ?_ ?_ _); rotate_left; focus (first | (simp; done) | (simp; omega) | omega)) | (with_reducible (refine Since.trans ?_ (by with_reducible assumption))))))).b).mono ?_; rintro e w1 ⟨rfl, hS1⟩; have hT1 : Since w w1 := (by (repeat (first | with_reducible (exact Since.refl _) | with_reducible assumption | with_reducible (refine Since.drew ?_) | with_reducible (refine Since.drewN ?_ _) | with_reducible (refine Since.alloc ?_ _) | (with_reducible (refine Since.setCell ?_ ?_ _); rotate_left; focus (first | (simp; done) | (simp; omega) | omega)) | (with_reducible (refine Since.trans ?_ (by with_reducible assumption)))))); have h1 := h.on hT1; have hb1 := HB.out.since (Since.trans (Since.alloc (Since.refl _) _) hS1); have hm1 := HM.out.since hS1) | (go_at_call 9; refine (ref_copy A n q f _ h1 (by omega)).mono ?_; rintro e w2 ⟨g2, cap, rfl, hown, hS2⟩; have hO := Lib.hid hown; have hg2 := hown.base; have hgl := hown.row.2.2; have hsz := hS2.below.size; clear hown) | (at_builtin; have _t := tok1; refine wpList_append_zeros _ (by rfl) _ _ _ _ (by rfl) w1.heap.size 5 q0 .u8 1 Tryd.underlying22 Tryd.underlying3 hq0 hz0 hz1 hz2 g2 cap n 54 (U8 f) (by rfl) (by rfl) hO.out z1 z2 hsz ?_; intro g3 c3 w3 hown3 hgr3 hat3; rw [tab_zeros, HF0.out] at hown3; have hr3 := row_of_own hown3; have hg3 : w1.heap.size ≤ g3 := own_base hown3; have hcp3 : n + 54 ≤ c3 := own_capk hown3; have hS13 : Since w1 w3 := since_grown hS2 hgr3 (fun k hk => by injection hk with hk; omega); rw [HN.out] at hr3 hcp3; rw [HN.out]; have hb3 := hb1.since hS13; have hm3 := hm1.since hS13; have hT3 := hT1.trans hS13; have hcne : ¬ c3 = 12 := (by omega); clear hown3 hgr3 hat3 tok1 hO hg2 hgl hsz hS2 h1 hb3 hm3; have tok2 := True.intro) | (have _t := tok2; refine wpList_copy_str ?_ (.tmp 23) (.const (.string { data := #[95, 15, 60, 245] })) 22 9 ?_ 5 Tryd.underlying22 Tryd.size_u8' g3 12 (N - 12) (c3 - 12) N (U8 F0) { data := #[95, 15, 60, 245] } ?_ ?_ hr3 ?_ ?_ w1 hS13 hg3 ?_; (focus rfl); (focus rfl); (focus rfl); (focus rfl); (focus (show (4 : Nat) ≤ _; omega)); (focus (show 12 + 4 ≤ N; omega)); intro w4 hr4 hS14; have hr4' := hr4.congr (fun j _ => over4_row rfl F0 12 j); rw [HF1.out] at hr4'; have hR4 := hr4'; have hT4 := hT1.trans hS14; have hb4 := hb1.since hS14; clear hr3 hr4 hr4' hS13 hT3 tok2 hb1; obtain ⟨b0, b1, b2, b3, b4, b5, b6⟩ := hb4; have tok3 := True.intro) | (go_at_call 17; (with_reducible refine (HP.out _ _ _ (HT.out.since hT4).b hR4).mono ?_); rintro e w5 ⟨A5, c5, rfl, hI5, hS5⟩; have hT5 := hT4.trans hS5; have hR5 := hR4.since hS5; have hS15 := hS14.trans hS5; have hB5 := SixB.since ⟨b0, b1, b2, b3, b4, b5, b6⟩ hS5; clear b0 b1 b2 b3 b4 b5 b6 hR4 hT4 hS14; obtain ⟨b0, b1, b2, b3, b4, b5, b6⟩ := hB5) | (go_at_call 10; (with_reducible refine (HH.out _ _ _ (HT.out.since hT5).b hI5).mono ?_); rintro e w6 ⟨rfl, hS6⟩; have hT6 := hT5.trans hS6; have hR6 := hR5.since hS6; have hS16 := hS15.trans hS6; have hB6 := SixB.since ⟨b0, b1, b2, b3, b4, b5, b6⟩ hS6; clear b0 b1 b2 b3 b4 b5 b6 hR5 hT5 hS15 hI5; obtain ⟨b0, b1, b2, b3, b4, b5, b6⟩ := hB6) | (have _t := tok3; refine wpList_copy_str ?_ (.tmp 45) (.const (.string { data := #[0, 1, 0, 0] })) 22 9 ?_ 5 Tryd.underlying22 Tryd.size_u8' g3 0 N c3 N (U8 F1) { data := #[0, 1, 0, 0] } ?_ ?_ ?_ ?_ ?_ w1 ?_ hg3 ?_; (focus rfl); (focus rfl); (focus rfl); (focus rfl); (focus (repeat (first | with_reducible assumption | with_reducible (refine Row.drewN ?_ _) | with_reducible (refine Row.drew ?_) | with_reducible (refine Row.alloc ?_ _) | (with_reducible (refine Row.far ?_ ?_ _ _); rotate_left; focus (first | (simp; done) | (simp; omega) | omega)) | with_reducible (refine Row.since ?_ (by with_reducible assumption))))); (focus (show (4 : Nat) ≤ _; omega)); (focus (show 0 + 4 ≤ N; omega)); (focus (repeat (first | with_reducible (exact Since.refl _) | with_reducible assumption | with_reducible (refine Since.drew ?_) | with_reducible (refine Since.drewN ?_ _) | with_reducible (refine Since.alloc ?_ _) | (with_reducible (refine Since.setCell ?_ ?_ _); rotate_left; focus (first | (simp; done) | (simp; omega) | omega)) | (with_reducible (refine Since.trans ?_ (by with_reducible assumption)))))); intro w7 hr7 hS17; have hr7' := hr7.congr (fun j _ => over4_row rfl F1 0 j); rw [HF2.out] at hr7'; have hR7 := hr7'; have hT7 := hT1.trans hS17; have hm7 := hm1.since hS17; clear hr7 hr7' tok3 b0 b1 b2 b3 b4 b5 b6; (try clear hR5 hS15); (try clear hR6 hS16); obtain ⟨b0, b1, b2, b3, b4, b5, b6, b7⟩ := hm7; have tok4 := True.intro) | (go_at_call 19; (with_reducible refine (HQ.out _ _ _ (HT.out.since hT7) hR7).mono ?_); rintro e w8 ⟨A8, c8, rfl, hI8, hS8⟩; have hT8 := hT7.trans hS8; have hB8 := SevenB.since ⟨b0, b1, b2, b3, b4, b5, b6, b7⟩ hS8; clear b0 b1 b2 b3 b4 b5 b6 b7 hR7 hT7; obtain ⟨b0, b1, b2, b3, b4, b5, b6, b7⟩ := hB8) | (go_at_call 11; (with_reducible refine (HX.out _ _ _ (HT.out.since hT8) hI8).mono ?_); rintro e w9 ⟨rfl, hS9⟩; have hT9 := hT8.trans hS9; have hB9 := SevenB.since ⟨b0, b1, b2, b3, b4, b5, b6, b7⟩ hS9; clear b0 b1 b2 b3 b4 b5 b6 b7 hT8 hI8; obtain ⟨b0, b1, b2, b3, b4, b5, b6, b7⟩ := hB9))
    go_ret
    exact ⟨by first | rfl | simp, by (repeat (first | with_reducible (exact Since.refl _) | with_reducible assumption | with_reducible (refine Since.drew ?_) | with_reducible (refine Since.drewN ?_ _) | with_reducible (refine Since.alloc ?_ _) | (with_reducible (refine Since.setCell ?_ ?_ _); rotate_left; focus (first | (simp; done) | (simp; omega) | omega)) | (with_reducible (refine Since.trans ?_ (by with_reducible assumption)))))⟩
  · have hM1' := hM0 (by decide)
    have hM2' := hM6 rfl
    clear hH hX hM0 hM6
    subst hM1'
    subst hM2'
    have tok1 := True.intro
    go_enter Tryd.func6, Tryd.ntmps6
    go_wp2_with (first | (go_at_call 8; refine (alive05 _ (HT.out.since (by (repeat (first | with_reducible (exact Since.refl _) | with_reducible assumption | with_reducible (refine Since.drew ?_) | with_reducible (refine Since.drewN ?_ _) | with_reducible (refine Since.alloc ?_ _) | (with_reducible (refine Since.setCell ?_ ?_ _); rotate_left; focus (first | (simp; done) | (simp; omega) | omega)) | (with_reducible (refine Since.trans ?_ (by with_reducible assumption))))))).b).mono ?_; rintro e w1 ⟨rfl, hS1⟩; have hT1 : Since w w1 := (by (repeat (first | with_reducible (exact Since.refl _) | with_reducible assumption | with_reducible (refine Since.drew ?_) | with_reducible (refine Since.drewN ?_ _) | with_reducible (refine Since.alloc ?_ _) | (with_reducible (refine Since.setCell ?_ ?_ _); rotate_left; focus (first | (simp; done) | (simp; omega) | omega)) | (with_reducible (refine Since.trans ?_ (by with_reducible assumption)))))); have h1 := h.on hT1; have hb1 := HB.out.since (Since.trans (Since.alloc (Since.refl _) _) hS1); have hm1 := HM.out.since hS1) | (go_at_call 9; refine (ref_copy A n q f _ h1 (by omega)).mono ?_; rintro e w2 ⟨g2, cap, rfl, hown, hS2⟩; have hO := Lib.hid hown; have hg2 := hown.base; have hgl := hown.row.2.2; have hsz := hS2.below.size; clear hown) | (at_builtin; have _t := tok1; refine wpList_append_zeros _ (by rfl) _ _ _ _ (by rfl) w1.heap.size 5 q0 .u8 1 Tryd.underlying22 Tryd.underlying3 hq0 hz0 hz1 hz2 g2 cap n 54 (U8 f) (by rfl) (by rfl) hO.out z1 z2 hsz ?_; intro g3 c3 w3 hown3 hgr3 hat3; rw [tab_zeros, HF0.out] at hown3; have hr3 := row_of_own hown3; have hg3 : w1.heap.size ≤ g3 := own_base hown3; have hcp3 : n + 54 ≤ c3 := own_capk hown3; have hS13 : Since w1 w3 := since_grown hS2 hgr3 (fun k hk => by injection hk with hk; omega); rw [HN.out] at hr3 hcp3; rw [HN.out]; have hb3 := hb1.since hS13; have hm3 := hm1.since hS13; have hT3 := hT1.trans hS13; have hcne : ¬ c3 = 12 := (by omega); clear hown3 hgr3 hat3 tok1 hO hg2 hgl hsz hS2 h1 hb3 hm3; have tok2 := True.intro) | (have _t := tok2; refine wpList_copy_str ?_ (.tmp 23) (.const (.string { data := #[95, 15, 60, 245] })) 22 9 ?_ 5 Tryd.underlying22 Tryd.size_u8' g3 12 (N - 12) (c3 - 12) N (U8 F0) { data := #[95, 15, 60, 245] } ?_ ?_ hr3 ?_ ?_ w1 hS13 hg3 ?_; (focus rfl); (focus rfl); (focus rfl); (focus rfl); (focus (show (4 : Nat) ≤ _; omega)); (focus (show 12 + 4 ≤ N; omega)); intro w4 hr4 hS14; have hr4' := hr4.congr (fun j _ => over4_row rfl F0 12 j); rw [HF1.out] at hr4'; have hR4 := hr4'; have hT4 := hT1.trans hS14; have hb4 := hb1.since hS14; clear hr3 hr4 hr4' hS13 hT3 tok2 hb1; obtain ⟨b0, b1, b2, b3, b4, b5, b6⟩ := hb4; have tok3 := True.intro) | (go_at_call 17; (with_reducible refine (HP.out _ _ _ (HT.out.since hT4).b hR4).mono ?_); rintro e w5 ⟨A5, c5, rfl, hI5, hS5⟩; have hT5 := hT4.trans hS5; have hR5 := hR4.since hS5; have hS15 := hS14.trans hS5; have hB5 := SixB.since ⟨b0, b1, b2, b3, b4, b5, b6⟩ hS5; clear b0 b1 b2 b3 b4 b5 b6 hR4 hT4 hS14; obtain ⟨b0, b1, b2, b3, b4, b5, b6⟩ := hB5) | (go_at_call 10; (with_reducible refine (HH.out _ _ _ (HT.out.since hT5).b hI5).mono ?_); rintro e w6 ⟨rfl, hS6⟩; have hT6 := hT5.trans hS6; have hR6 := hR5.since hS6; have hS16 := hS15.trans hS6; have hB6 := SixB.since ⟨b0, b1, b2, b3, b4, b5, b6⟩ hS6; clear b0 b1 b2 b3 b4 b5 b6 hR5 hT5 hS15 hI5; obtain ⟨b0, b1, b2, b3, b4, b5, b6⟩ := hB6) | (have _t := tok3; refine wpList_copy_str ?_ (.tmp 45) (.const (.string { data := #[0, 1, 0, 0] })) 22 9 ?_ 5 Tryd.underlying22 Tryd.size_u8' g3 0 N c3 N (U8 F1) { data := #[0, 1, 0, 0] } ?_ ?_ ?_ ?_ ?_ w1 ?_ hg3 ?_; (focus rfl); (focus rfl); (focus rfl); (focus rfl); (focus (repeat (first | with_reducible assumption | with_reducible (refine Row.drewN ?_ _) | with_reducible (refine Row.drew ?_) | with_reducible (refine Row.alloc ?_ _) | (with_reducible (refine Row.far ?_ ?_ _ _); rotate_left; focus (first | (simp; done) | (simp; omega) | omega)) | with_reducible (refine Row.since ?_ (by with_reducible assumption))))); (focus (show (4 : Nat) ≤ _; omega)); (focus (show 0 + 4 ≤ N; omega)); (focus (repeat (first | with_reducible (exact Since.refl _) | with_reducible assumption | with_reducible (refine Since.drew ?_) | with_reducible (refine Since.drewN ?_ _) | with_reducible (refine Since.alloc ?_ _) | (with_reducible (refine Since.setCell ?_ ?_ _); rotate_left; focus (first | (simp; done) | (simp; omega) | omega)) | (with_reducible (refine Since.trans ?_ (by with_reducible assumption)))))); intro w7 hr7 hS17; have hr7' := hr7.congr (fun j _ => over4_row rfl F1 0 j); rw [HF2.out] at hr7'; have hR7 := hr7'; have hT7 := hT1.trans hS17; have hm7 := hm1.since hS17; clear hr7 hr7' tok3 b0 b1 b2 b3 b4 b5 b6; (try clear hR5 hS15); (try clear hR6 hS16); obtain ⟨b0, b1, b2, b3, b4, b5, b6, b7⟩ := hm7; have tok4 := True.intro) | (go_at_call 19; (with_reducible refine (HQ.out _ _ _ (HT.out.since hT7) hR7).mono ?_); rintro e w8 ⟨A8, c8, rfl, hI8, hS8⟩; have hT8 := hT7.trans hS8; have hB8 := SevenB.since ⟨b0, b1, b2, b3, b4, b5, b6, b7⟩ hS8; clear b0 b1 b2 b3 b4 b5 b6 b7 hR7 hT7; obtain ⟨b0, b1, b2, b3, b4, b5, b6, b7⟩ := hB8) | (go_at_call 11; (with_reducible refine (HX.out _ _ _ (HT.out.since hT8) hI8).mono ?_); rintro e w9 ⟨rfl, hS9⟩; have hT9 := hT8.trans hS9; have hB9 := SevenB.since ⟨b0, b1, b2, b3, b4, b5, b6, b7⟩ hS9; clear b0 b1 b2 b3 b4 b5 b6 b7 hT8 hI8; obtain ⟨b0, b1, b2, b3, b4, b5, b6, b7⟩ := hB9))
    go_ret
    exact ⟨by first | rfl | simp, by (repeat (first | with_reducible (exact Since.refl _) | with_reducible assumption | with_reducible (refine Since.drew ?_) | with_reducible (refine Since.drewN ?_ _) | with_reducible (refine Since.alloc ?_ _) | (with_reducible (refine Since.setCell ?_ ?_ _); rotate_left; focus (first | (simp; done) | (simp; omega) | omega)) | (with_reducible (refine Since.trans ?_ (by with_reducible assumption)))))⟩
end Go.Proofs.YtefalfdillnkfaaDoor
