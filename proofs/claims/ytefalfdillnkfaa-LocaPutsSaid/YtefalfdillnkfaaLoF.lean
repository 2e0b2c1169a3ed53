/-
  Layer 6: 'Metrics', walked, program and reference.
-/
import Derived.Test.YtefalfdillnkfaaLoE
import Derived.Test.YtefalfdillnkfaaKit9
namespace Go.Proofs.Ytefalfdillnkfaa
open Go.RowKit
set_option linter.unusedVariables false


theorem s_in (A : Option Addr) (n c : Nat) (f : Nat → Int) (p m : Nat) (x y : Int) (w : World) (h : Rd w w.heap.size A n (U8 f)) (hf : ∀ j, j < n → 0 ≤ f j ∧ f j ≤ 255) (hx : x = p) (hy : y = m) (hm : 1 ≤ m ∧ m ≤ 4) (hp : p + m ≤ n) (hn : n ≤ 140737488355328) :
    Calls Try.prog 31 #[.slice A n c, .int .i64 x, .int .i64 y] w fun e w' => e = .returned (.tuple #[.int .i64 (sgn m (numAt f p m)), .int .i64 0]) ∧ w' = w := by
  subst hx; subst hy
  have h' := be_s A n c f p m w h hf (by unfold In64; omega) (by unfold In64; omega) hn
  unfold sAns at h'
  rw [if_neg (by omega), if_pos (by unfold Fits; omega)] at h'
  simpa using h'

theorem rs_in (A : Option Addr) (n c : Nat) (f : Nat → Int) (p m : Nat) (x y : Int) (w : World) (h : Rd w w.heap.size A n (U8 f)) (hf : ∀ j, j < n → 0 ≤ f j ∧ f j ≤ 255) (hx : x = p) (hy : y = m) (hm : 1 ≤ m ∧ m ≤ 4) (hp : p + m ≤ n) (hn : n ≤ 140737488355328) :
    Calls Try.prog 32 #[.slice A n c, .int .i64 x, .int .i64 y] w fun e w' => e = .returned (.tuple #[.int .i64 (sgn m (numAt f p m)), .int .i64 0]) ∧ w' = w := by
  subst hx; subst hy
  have h' := ref_s A n c f p m w h hf (by unfold In64; omega) (by unfold In64; omega) hn
  unfold sAns at h'
  rw [if_neg (by omega), if_pos (by unfold Fits; omega)] at h'
  simpa using h'

def mtA (f : Nat → Int) (C i : Nat) : Int := if i < C then numAt f (4 * i) 2 else numAt f (4 * (C - 1)) 2
def mtB (f : Nat → Int) (C i : Nat) : Int := if i < C then sgn 2 (numAt f (4 * i + 2) 2) else sgn 2 (numAt f (4 * C + 2 * (i - C)) 2)
def MtV (X Y : Nat → Int) (j : Nat) : Value := .int .i64 (if j % 2 = 0 then X (j / 2) else Y (j / 2))
theorem mtv_even (X Y : Nat → Int) (j : Nat) : MtV X Y (j * 2) = .int .i64 (X j) := by
  unfold MtV; rw [if_pos (by omega), show j * 2 / 2 = j by omega]
theorem mtv_odd (X Y : Nat → Int) (j : Nat) : MtV X Y (j * 2 + 1) = .int .i64 (Y j) := by
  unfold MtV; rw [if_neg (by omega), show (j * 2 + 1) / 2 = j by omega]
theorem mtv_ones {n : Nat} {X Y : Nat → Int} : ∀ u ∈ tab n (MtV X Y), u.oneCell' = true := by
  intro u hu
  unfold tab at hu
  obtain ⟨k, _, rfl⟩ := List.mem_map.1 hu
  rfl
def mtE (n : Nat) (c g : Int) : Int := if g < 1 ∨ 1024 < g ∨ c < 1 ∨ g < c then 2 else if (n : Int) < 4 * c + 2 * (g - c) then 3 else 0
def mtN (n : Nat) (c g : Int) : Nat := if mtE n c g = 0 then g.toNat else 0
/-- What 'Metrics' leaves. -/
def MtPost (f : Nat → Int) (n : Nat) (c g : Int) (w : World) (e : Ending) (w' : World) : Prop := ∃ A' d, e = .returned (.tuple #[.slice A' (mtN n c g) d, .int .i64 (mtE n c g)]) ∧ mtN n c g ≤ d ∧ Rd w' w'.heap.size A' (mtN n c g * 2) (MtV (mtA f c.toNat) (mtB f c.toNat)) ∧ Since w w'
theorem mt_post {f : Nat → Int} {n : Nat} {c g E : Int} {M d : Nat} {A' : Option Addr} {w w' : World} (hE : mtE n c g = E) (hM : M = if E = 0 then g.toNat else 0) (hd : M ≤ d) (h : Rd w' w'.heap.size A' (M * 2) (MtV (mtA f c.toNat) (mtB f c.toNat))) (hS : Since w w') :
    MtPost f n c g w (.returned (.tuple #[.slice A' M d, .int .i64 E])) w' := by
  subst hE
  have e : mtN n c g = M := hM.symm
  unfold MtPost
  rw [e]
  exact ⟨A', d, rfl, hd, h, hS⟩
theorem Try.info_mt : (Try.prog.info? 52).map (fun i => (i.zero, i.size, i.bytes)) = some (some (.agg #[.int .i64 0, .int .i64 0]), 2, 16) := by kernel_rfl
theorem zero_mt (j : Nat) : (Value.agg #[.int .i64 0, .int .i64 0]).cells[j % (Value.agg #[.int .i64 0, .int .i64 0]).cells.size]! = (fun _ => Value.int .i64 0) j := by
  have h : j % 2 = 0 ∨ j % 2 = 1 := by omega
  show #[Value.int .i64 0, .int .i64 0][j % 2]! = _
  rcases h with h | h <;> rw [h] <;> rfl
def mtPart (X Y : Nat → Int) (k j : Nat) : Value := if j < k then MtV X Y j else .int .i64 0
theorem mtPart_two (X Y : Nat → Int) (j t : Nat) (x y : Int) (hx : X j = x) (hy : Y j = y) : (if t = j * 2 + 1 then Value.int .i64 y else if t = j * 2 then Value.int .i64 x else mtPart X Y (j * 2) t) = mtPart X Y ((j + 1) * 2) t := by
  subst hx; subst hy
  by_cases h1 : t = j * 2 + 1
  · subst h1; rw [if_pos rfl]; unfold mtPart; rw [if_pos (by omega), mtv_odd]
  · rw [if_neg h1]
    by_cases h2 : t = j * 2
    · subst h2; rw [if_pos rfl]; unfold mtPart; rw [if_pos (by omega), mtv_even]
    · rw [if_neg h2]; unfold mtPart
      by_cases h3 : t < j * 2
      · rw [if_pos h3, if_pos (by omega)]
      · rw [if_neg h3, if_neg (by omega)]
theorem mt_bad {c g : Int} (h : g < 1 ∨ 1024 < g ∨ c < 1 ∨ g < c) : g < 1 ∨ (1 ≤ g ∧ 1024 < g) ∨ (1 ≤ g ∧ g ≤ 1024 ∧ c < 1) ∨ (1 ≤ g ∧ g ≤ 1024 ∧ 1 ≤ c ∧ g < c) := by omega

set_option maxRecDepth 100000 in
set_option maxHeartbeats 8000000 in
theorem lo_metrics (A : Option Addr) (n d : Nat) (f : Nat → Int) (c g : Int) (w : World) (h : Rd w w.heap.size A n (U8 f)) (hf : ∀ j, j < n → 0 ≤ f j ∧ f j ≤ 255) (hc : In64 c) (hg : In64 g) (hn : n ≤ 140737488355328) :
    Calls Try.prog 19 #[.slice A n d, .int .i64 c, .int .i64 g] w (MtPost f n c g w) := by
  obtain ⟨i0, hi0, hz0, hz1, hz2⟩ := info_parts Try.info_mt
  by_cases hbad : g < 1 ∨ 1024 < g ∨ c < 1 ∨ g < c
  · have E := Lib.hid (show mtE n c g = 2 by unfold mtE; rw [if_pos hbad])
    have hb := mt_bad hbad
    clear hbad h
    rcases hb with h1 | ⟨h1, h2⟩ | ⟨h1, h2, h3⟩ | ⟨h1, h2, h3, h4⟩
    all_goals
      go_enter Try.func19, Try.ntmps19
      go_wp2
      go_ret2
      exact mt_post E.out rfl (Nat.le_refl _) Rd.zero (Since.refl _)
  obtain ⟨G, rfl⟩ : ∃ G : Nat, g = G := ⟨g.toNat, by omega⟩
  obtain ⟨C, rfl⟩ : ∃ C : Nat, c = C := ⟨c.toNat, by omega⟩
  have hG1 : (1 : Int) ≤ G := by omega
  have hG2 : (G : Int) ≤ 1024 := by omega
  have hC1 : (1 : Int) ≤ C := by omega
  have hC2 : (C : Int) ≤ G := by omega
  by_cases h3 : (n : Int) < 4 * C + 2 * ((G : Int) - C)
  · have E := Lib.hid (show mtE n C G = 3 by unfold mtE; rw [if_neg hbad, if_pos h3])
    clear hbad h
    go_enter Try.func19, Try.ntmps19
    go_wp2
    go_ret2
    exact mt_post E.out rfl (Nat.le_refl _) Rd.zero (Since.refl _)
  · have E := Lib.hid (show mtE n C G = 0 by unfold mtE; rw [if_neg hbad, if_neg h3])
    have b1 : 16 * G ≤ 281474976710656 := by omega
    have b2 : G ≤ maxLen := by simp only [maxLen]; omega
    clear hbad
    go_enter Try.func19, Try.ntmps19
    go_wp2_with (at_make; refine wpList_make_k _ (by rfl) _ _ _ (by rfl) 52 i0 _ 2 16 Try.underlying41 hi0 hz0 hz1 hz2 (fun _ => .int .i64 0) zero_mt .i64 .i64 G (by rfl) (by rfl) b1 b2 ?_; intro w1 hown1 hS1)
    have hrow := row_of_own_k (by omega) hown1
    clear hown1
    go_loopw [39] (fun y wr => ∃ j : Nat, j ≤ G ∧ y = .int .i64 (j : Int) ∧ Since w wr ∧ Row wr w.heap.size (G * 2) (mtPart (mtA f C) (mtB f C) (j * 2))) (fun y _ => G - (intOf y).toNat)
    case atStart => exact ⟨0, by omega, rfl, hS1, hrow.congr (fun q hq => by unfold mtPart; rw [if_neg (by omega)])⟩
    case round =>
      obtain ⟨j, hj, rfl, hSr, hR⟩ := hrel
      by_cases hjm : j < G
      · have hjm' : (j : Int) < (G : Int) := by omega
        have hr := h.on hSr
        have hc0 := hR.1 (j * 2) (by omega)
        have hc1 := hR.1 (j * 2 + 1) (by omega)
        have hf0 := hR.2.1 (j * 2)
        have hf1 := hR.2.1 (j * 2 + 1)
        clear hrow hS1
        by_cases hjC : j < C
        · have hjC' : (j : Int) < C := by omega
          have hU := u_in A n d f (4 * j) 2 (4 * (j : Int)) 2 wr hr hf (by simp) rfl (by omega) (by omega) (by omega)
          have hX : mtA f C j = numAt f (4 * j) 2 := by unfold mtA; rw [if_pos hjC]
          have hY : mtB f C j = sgn 2 (numAt f (4 * j + 2) 2) := by unfold mtB; rw [if_pos hjC]
          have hSg : ∀ w2, Since w w2 → Calls Try.prog 31 #[.slice A n d, .int .i64 (4 * (j : Int) + 2), .int .i64 2] w2 fun e w' => e = .returned (.tuple #[.int .i64 (sgn 2 (numAt f (4 * j + 2) 2)), .int .i64 0]) ∧ w' = w2 := fun w2 hS => s_in A n d f (4 * j + 2) 2 (4 * (j : Int) + 2) 2 w2 (h.on hS) hf (by simp) rfl (by omega) (by omega) (by omega)
          generalize numAt f (4 * j) 2 = x at *
          generalize sgn 2 (numAt f (4 * j + 2) 2) = y at *
          have HX := Lib.hid hX; have HY := Lib.hid hY; have HS := Lib.hid hSg
          clear hX hY hSg hr h
          go_wp2_with (first | (go_at_call 25; (with_reducible refine hU.mono ?_); rintro e w2 ⟨rfl, rfl⟩) | (go_at_call 31; refine (HS.out _ (by (repeat (first | with_reducible (exact Since.refl _) | with_reducible assumption | with_reducible (refine Since.drew ?_) | with_reducible (refine Since.drewN ?_ _) | with_reducible (refine Since.alloc ?_ _) | (with_reducible (refine Since.setCell ?_ ?_ _); rotate_left; focus (first | (simp; done) | (simp; omega) | omega)) | (with_reducible (refine Since.trans ?_ (by with_reducible assumption))))))).mono ?_; rintro e w3 ⟨rfl, rfl⟩))
          refine ⟨⟨j + 1, by omega, by simp, by (repeat (first | with_reducible (exact Since.refl _) | with_reducible assumption | with_reducible (refine Since.drew ?_) | with_reducible (refine Since.drewN ?_ _) | with_reducible (refine Since.alloc ?_ _) | (with_reducible (refine Since.setCell ?_ ?_ _); rotate_left; focus (first | (simp; done) | (simp; omega) | omega)) | (with_reducible (refine Since.trans ?_ (by with_reducible assumption))))), ((hR.set (j * 2) _).set (j * 2 + 1) _).congr (fun t ht => ?_)⟩, by simp [intOf]; omega⟩
          exact mtPart_two _ _ j t _ _ HX.out HY.out
        · have hjC' : ¬ (j : Int) < C := by omega
          have hX : mtA f C j = numAt f (4 * (C - 1)) 2 := by unfold mtA; rw [if_neg hjC]
          have hX0 : mtA f C (C - 1) = numAt f (4 * (C - 1)) 2 := by unfold mtA; rw [if_pos (by omega)]
          have hY : mtB f C j = sgn 2 (numAt f (4 * C + 2 * (j - C)) 2) := by unfold mtB; rw [if_neg hjC]
          have hk := hR.1 ((C - 1) * 2) (by omega)
          have hk' : mtPart (mtA f C) (mtB f C) (j * 2) ((C - 1) * 2) = .int .i64 (mtA f C (C - 1)) := by unfold mtPart; rw [if_pos (by omega), mtv_even]
          rw [hk', hX0] at hk
          have hSg : ∀ w2, Since w w2 → Calls Try.prog 31 #[.slice A n d, .int .i64 (4 * (C : Int) + 2 * ((j : Int) - C)), .int .i64 2] w2 fun e w' => e = .returned (.tuple #[.int .i64 (sgn 2 (numAt f (4 * C + 2 * (j - C)) 2)), .int .i64 0]) ∧ w' = w2 := fun w2 hS => s_in A n d f (4 * C + 2 * (j - C)) 2 (4 * (C : Int) + 2 * ((j : Int) - C)) 2 w2 (h.on hS) hf (by omega) rfl (by omega) (by omega) (by omega)
          generalize numAt f (4 * (C - 1)) 2 = x at *
          generalize sgn 2 (numAt f (4 * C + 2 * (j - C)) 2) = y at *
          have HX := Lib.hid hX; have HY := Lib.hid hY; have HS := Lib.hid hSg
          clear hX hY hSg hr h hk' hX0
          go_wp2_with (first | (go_at_call 31; refine (HS.out _ (by (repeat (first | with_reducible (exact Since.refl _) | with_reducible assumption | with_reducible (refine Since.drew ?_) | with_reducible (refine Since.drewN ?_ _) | with_reducible (refine Since.alloc ?_ _) | (with_reducible (refine Since.setCell ?_ ?_ _); rotate_left; focus (first | (simp; done) | (simp; omega) | omega)) | (with_reducible (refine Since.trans ?_ (by with_reducible assumption))))))).mono ?_; rintro e w3 ⟨rfl, rfl⟩))
          refine ⟨⟨j + 1, by omega, by simp, by (repeat (first | with_reducible (exact Since.refl _) | with_reducible assumption | with_reducible (refine Since.drew ?_) | with_reducible (refine Since.drewN ?_ _) | with_reducible (refine Since.alloc ?_ _) | (with_reducible (refine Since.setCell ?_ ?_ _); rotate_left; focus (first | (simp; done) | (simp; omega) | omega)) | (with_reducible (refine Since.trans ?_ (by with_reducible assumption))))), ((hR.set (j * 2) _).set (j * 2 + 1) _).congr (fun t ht => ?_)⟩, by simp [intOf]; omega⟩
          exact mtPart_two _ _ j t _ _ HX.out HY.out
      · obtain rfl : j = G := by omega
        have hR' := hR.congr (g := MtV (mtA f C) (mtB f C)) (fun q hq => by unfold mtPart; rw [if_pos hq])
        clear hR hrow h
        go_wp2
        go_ret2
        exact mt_post E.out rfl (Nat.le_refl _) (Rd.of_row hR') hSr

theorem mt_two (X Y : Nat → Int) (j : Nat) (x y : Int) (hx : X j = x) (hy : Y j = y) : ∀ t, t < 1 * 2 → #[Value.int .i64 x, .int .i64 y][t]? = some ((fun t => MtV X Y (j * 2 + t)) t) := by
  subst hx; subst hy
  intro t ht
  have h : t = 0 ∨ t = 1 := by omega
  rcases h with rfl | rfl
  · show _ = some (MtV X Y (j * 2 + 0)); rw [Nat.add_zero, mtv_even]; rfl
  · show _ = some (MtV X Y (j * 2 + 1)); rw [mtv_odd]; rfl
theorem mtv_ones' (X Y : Nat → Int) (p : Nat) {n : Nat} : ∀ u ∈ tab n (fun t => MtV X Y (p + t)), u.oneCell' = true := by
  intro u hu
  unfold tab at hu
  obtain ⟨k, _, rfl⟩ := List.mem_map.1 hu
  rfl
set_option maxRecDepth 100000 in
set_option maxHeartbeats 8000000 in
theorem ref_metrics (A : Option Addr) (n d : Nat) (f : Nat → Int) (c g : Int) (w : World) (h : Rd w w.heap.size A n (U8 f)) (hf : ∀ j, j < n → 0 ≤ f j ∧ f j ≤ 255) (hc : In64 c) (hg : In64 g) (hn : n ≤ 140737488355328) :
    Calls Try.prog 20 #[.slice A n d, .int .i64 c, .int .i64 g] w (MtPost f n c g w) := by
  obtain ⟨i0, hi0, hz0, hz1, hz2⟩ := info_parts Try.info_mt
  by_cases hbad : g < 1 ∨ 1024 < g ∨ c < 1 ∨ g < c
  · have E := Lib.hid (show mtE n c g = 2 by unfold mtE; rw [if_pos hbad])
    have hb := mt_bad hbad
    clear hbad h
    rcases hb with h1 | ⟨h1, h2⟩ | ⟨h1, h2, h3⟩ | ⟨h1, h2, h3, h4⟩
    all_goals
      go_enter Try.func20, Try.ntmps20
      go_wp2
      go_ret2
      exact mt_post E.out rfl (Nat.le_refl _) Rd.zero (Since.refl _)
  obtain ⟨G, rfl⟩ : ∃ G : Nat, g = G := ⟨g.toNat, by omega⟩
  obtain ⟨C, rfl⟩ : ∃ C : Nat, c = C := ⟨c.toNat, by omega⟩
  have hG1 : (1 : Int) ≤ G := by omega
  have hG2 : (G : Int) ≤ 1024 := by omega
  have hC1 : (1 : Int) ≤ C := by omega
  have hC2 : (C : Int) ≤ G := by omega
  by_cases h3 : (n : Int) < 4 * C + 2 * ((G : Int) - C)
  · have E := Lib.hid (show mtE n C G = 3 by unfold mtE; rw [if_neg hbad, if_pos h3])
    clear hbad h
    go_enter Try.func20, Try.ntmps20
    go_wp2
    go_ret2
    exact mt_post E.out rfl (Nat.le_refl _) Rd.zero (Since.refl _)
  · have E := Lib.hid (show mtE n C G = 0 by unfold mtE; rw [if_neg hbad, if_neg h3])
    clear hbad
    go_enter Try.func20, Try.ntmps20
    go_wp2
    go_loopw [8, 9] (fun v y wr => ∃ j : Nat, j ≤ G ∧ y = .int .i64 (j : Int) ∧ Since w wr ∧ wr.ownsRow w.heap.size 52 2 v j (tab (j * 2) (MtV (mtA f C) (mtB f C)))) (fun _ y _ => G - (intOf y).toNat)
    case atStart => exact ⟨0, by omega, rfl, Since.refl _, World.ownsRow_nil _ _ _ _⟩
    case round =>
      obtain ⟨j, hj, rfl, hSr, hown⟩ := hrel
      obtain ⟨vA, vc, rfl, hvc, hvr, hvb⟩ := own_k (by omega) hown
      by_cases hjm : j < G
      · have hjm' : (j : Int) < (G : Int) := by omega
        have q3 : (j + 1) * 16 ≤ 140737488355328 := by omega
        have q4 : j + 1 ≤ maxLen := by simp only [maxLen]; omega
        have q5 : w.heap.size ≤ wr.heap.size := hSr.below.size
        by_cases hjC : j < C
        · have hjC' : (j : Int) < C := by omega
          have hX : mtA f C j = numAt f (4 * j) 2 := by unfold mtA; rw [if_pos hjC]
          have hY : mtB f C j = sgn 2 (numAt f (4 * j + 2) 2) := by unfold mtB; rw [if_pos hjC]
          have hU : ∀ w2, Since w w2 → Calls Try.prog 27 #[.slice A n d, .int .i64 (4 * (j : Int)), .int .i64 2] w2 fun e w' => e = .returned (.tuple #[.int .i64 (numAt f (4 * j) 2), .int .i64 0]) ∧ w' = w2 := fun w2 hS => ru_in A n d f (4 * j) 2 (4 * (j : Int)) 2 w2 (h.on hS) hf (by simp) rfl (by omega) (by omega) (by omega)
          have hSg : ∀ w2, Since w w2 → Calls Try.prog 32 #[.slice A n d, .int .i64 (4 * (j : Int) + 2), .int .i64 2] w2 fun e w' => e = .returned (.tuple #[.int .i64 (sgn 2 (numAt f (4 * j + 2) 2)), .int .i64 0]) ∧ w' = w2 := fun w2 hS => rs_in A n d f (4 * j + 2) 2 (4 * (j : Int) + 2) 2 w2 (h.on hS) hf (by simp) rfl (by omega) (by omega) (by omega)
          generalize numAt f (4 * j) 2 = x at *
          generalize sgn 2 (numAt f (4 * j + 2) 2) = y at *
          have HX := Lib.hid hX; have HY := Lib.hid hY; have HS := Lib.hid hSg; have HU := Lib.hid hU
          clear hX hY hSg hU h hvr
          go_wp2_with (first | (go_at_call 27; refine (HU.out _ (by (repeat (first | with_reducible (exact Since.refl _) | with_reducible assumption | with_reducible (refine Since.drew ?_) | with_reducible (refine Since.drewN ?_ _) | with_reducible (refine Since.alloc ?_ _) | (with_reducible (refine Since.setCell ?_ ?_ _); rotate_left; focus (first | (simp; done) | (simp; omega) | omega)) | (with_reducible (refine Since.trans ?_ (by with_reducible assumption))))))).mono ?_; rintro e w2 ⟨rfl, rfl⟩) | (go_at_call 32; refine (HS.out _ (by (repeat (first | with_reducible (exact Since.refl _) | with_reducible assumption | with_reducible (refine Since.drew ?_) | with_reducible (refine Since.drewN ?_ _) | with_reducible (refine Since.alloc ?_ _) | (with_reducible (refine Since.setCell ?_ ?_ _); rotate_left; focus (first | (simp; done) | (simp; omega) | omega)) | (with_reducible (refine Since.trans ?_ (by with_reducible assumption))))))).mono ?_; rintro e w3 ⟨rfl, rfl⟩) | (at_builtin; refine wpList_append_k _ (by rfl) _ _ _ (by rfl) w.heap.size 52 i0 _ 2 16 Try.underlying41 hi0 hz0 hz1 hz2 (by rfl) (by omega) _ j _ (by rfl) (own_since_k hown (by (repeat (first | with_reducible (exact Since.refl _) | with_reducible assumption | with_reducible (refine Since.drew ?_) | with_reducible (refine Since.drewN ?_ _) | with_reducible (refine Since.alloc ?_ _) | (with_reducible (refine Since.setCell ?_ ?_ _); rotate_left; focus (first | (simp; done) | (simp; omega) | omega)) | (with_reducible (refine Since.trans ?_ (by with_reducible assumption))))))) _ _ 1 1 (fun t => MtV (mtA f C) (mtB f C) (j * 2 + t)) (by rfl) (rd_lit (by simp) (mt_two _ _ j _ _ HX.out HY.out)) (mtv_ones' _ _ _) q3 q4 (by simp; omega) ?_; intro v' w5 hown5 hgr5; have hS5 : Since w w5 := since_grown (by (repeat (first | with_reducible (exact Since.refl _) | with_reducible assumption | with_reducible (refine Since.drew ?_) | with_reducible (refine Since.drewN ?_ _) | with_reducible (refine Since.alloc ?_ _) | (with_reducible (refine Since.setCell ?_ ?_ _); rotate_left; focus (first | (simp; done) | (simp; omega) | omega)) | (with_reducible (refine Since.trans ?_ (by with_reducible assumption)))))) hgr5 hvb; rw [tab_more] at hown5; clear hown))
          refine ⟨⟨j + 1, by omega, by simp, hS5, ?_⟩, by simp [intOf]; omega⟩
          rw [Nat.add_mul]
          exact hown5
        · have hjC' : ¬ (j : Int) < C := by omega
          have hX : mtA f C j = numAt f (4 * (C - 1)) 2 := by unfold mtA; rw [if_neg hjC]
          have hX0 : mtA f C (C - 1) = numAt f (4 * (C - 1)) 2 := by unfold mtA; rw [if_pos (by omega)]
          have hY : mtB f C j = sgn 2 (numAt f (4 * C + 2 * (j - C)) 2) := by unfold mtB; rw [if_neg hjC]
          obtain ⟨b, o, rfl, hb, hcc⟩ := hvr (by omega)
          have hk := hcc ((C - 1) * 2) (by omega)
          rw [mtv_even, hX0] at hk
          have hSg : ∀ w2, Since w w2 → Calls Try.prog 32 #[.slice A n d, .int .i64 (4 * (C : Int) + 2 * ((j : Int) - C)), .int .i64 2] w2 fun e w' => e = .returned (.tuple #[.int .i64 (sgn 2 (numAt f (4 * C + 2 * (j - C)) 2)), .int .i64 0]) ∧ w' = w2 := fun w2 hS => rs_in A n d f (4 * C + 2 * (j - C)) 2 (4 * (C : Int) + 2 * ((j : Int) - C)) 2 w2 (h.on hS) hf (by omega) rfl (by omega) (by omega) (by omega)
          generalize numAt f (4 * (C - 1)) 2 = x at *
          generalize sgn 2 (numAt f (4 * C + 2 * (j - C)) 2) = y at *
          have HX := Lib.hid hX; have HY := Lib.hid hY; have HS := Lib.hid hSg
          have hbn := Nat.ne_of_lt hb
          clear hX hY hSg h hX0 hvr hcc
          go_wp2_with (first | (go_at_call 32; refine (HS.out _ (by (repeat (first | with_reducible (exact Since.refl _) | with_reducible assumption | with_reducible (refine Since.drew ?_) | with_reducible (refine Since.drewN ?_ _) | with_reducible (refine Since.alloc ?_ _) | (with_reducible (refine Since.setCell ?_ ?_ _); rotate_left; focus (first | (simp; done) | (simp; omega) | omega)) | (with_reducible (refine Since.trans ?_ (by with_reducible assumption))))))).mono ?_; rintro e w3 ⟨rfl, rfl⟩) | (at_builtin; refine wpList_append_k _ (by rfl) _ _ _ (by rfl) w.heap.size 52 i0 _ 2 16 Try.underlying41 hi0 hz0 hz1 hz2 (by rfl) (by omega) _ j _ (by rfl) (own_since_k hown (by (repeat (first | with_reducible (exact Since.refl _) | with_reducible assumption | with_reducible (refine Since.drew ?_) | with_reducible (refine Since.drewN ?_ _) | with_reducible (refine Since.alloc ?_ _) | (with_reducible (refine Since.setCell ?_ ?_ _); rotate_left; focus (first | (simp; done) | (simp; omega) | omega)) | (with_reducible (refine Since.trans ?_ (by with_reducible assumption))))))) _ _ 1 1 (fun t => MtV (mtA f C) (mtB f C) (j * 2 + t)) (by rfl) (rd_lit (by simp) (mt_two _ _ j _ _ HX.out HY.out)) (mtv_ones' _ _ _) q3 q4 (by simp; omega) ?_; intro v' w5 hown5 hgr5; have hS5 : Since w w5 := since_grown (by (repeat (first | with_reducible (exact Since.refl _) | with_reducible assumption | with_reducible (refine Since.drew ?_) | with_reducible (refine Since.drewN ?_ _) | with_reducible (refine Since.alloc ?_ _) | (with_reducible (refine Since.setCell ?_ ?_ _); rotate_left; focus (first | (simp; done) | (simp; omega) | omega)) | (with_reducible (refine Since.trans ?_ (by with_reducible assumption)))))) hgr5 hvb; rw [tab_more] at hown5; clear hown))
          refine ⟨⟨j + 1, by omega, by simp, hS5, ?_⟩, by simp [intOf]; omega⟩
          rw [Nat.add_mul]
          exact hown5
      · obtain rfl : j = G := by omega
        clear h
        go_wp2
        go_ret2
        exact mt_post E.out rfl hvc hvr hSr
end Go.Proofs.Ytefalfdillnkfaa
