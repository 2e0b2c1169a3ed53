/-
  Layer 9: the metrics of a table of them, and where they lie.
-/
import Derived.Test.YteckkcpnfeoehaaGreatDoorMpP
namespace Go.Proofs.YteckkcpnfeoehaaGreatDoor
set_option maxRecDepth 100000
open Go.RowKit Go.ChangeShapes Go.WideShapes Go.Deep
set_option linter.unusedVariables false
set_option linter.unusedSimpArgs false

def MtPostB (f : Nat → Int) (n : Nat) (c g : Int) (w : World) (e : Ending) (w' : World) : Prop := ∃ A' d, e = .returned (.tuple #[.slice A' (mtN n c g) d, .int .i64 (mtE n c g)]) ∧ mtN n c g ≤ d ∧ Rd w' w'.heap.size A' (mtN n c g * 2) (MtV (mtA f c.toNat) (mtB f c.toNat)) ∧ Since w w' ∧ ∀ b o, A' = some ⟨b, o, none⟩ → w.heap.size ≤ b
theorem mt_postB {f : Nat → Int} {n : Nat} {c g E : Int} {M d : Nat} {A' : Option Addr} {w w' : World} (hE : mtE n c g = E) (hM : M = if E = 0 then g.toNat else 0) (hd : M ≤ d) (h : Rd w' w'.heap.size A' (M * 2) (MtV (mtA f c.toNat) (mtB f c.toNat))) (hS : Since w w') (hb : ∀ b o, A' = some ⟨b, o, none⟩ → w.heap.size ≤ b) :
    MtPostB f n c g w (.returned (.tuple #[.slice A' M d, .int .i64 E])) w' := by
  have e : M = mtN n c g := by unfold mtN; rw [hE, hM]
  subst e
  exact ⟨A', d, by rw [hE], hd, h, hS, hb⟩
set_option maxRecDepth 100000 in
set_option maxHeartbeats 8000000 in
theorem lo_metricsB (A : Option Addr) (n d : Nat) (f : Nat → Int) (c g : Int) (w : World) (h : Rd w w.heap.size A n (U8 f)) (hf : ∀ j, j < n → 0 ≤ f j ∧ f j ≤ 255) (hc : In64 c) (hg : In64 g) (hn : n ≤ 140737488355328) :
    Calls Tryz.prog 57 #[.slice A n d, .int .i64 c, .int .i64 g] w (MtPostB f n c g w) := by
  obtain ⟨i0, hi0, hz0, hz1, hz2⟩ := info_parts Tryz.info_mt
  by_cases hbad : g < 1 ∨ 1024 < g ∨ c < 1 ∨ g < c
  · have E := Lib.hid (show mtE n c g = 2 by unfold mtE; rw [if_pos hbad])
    have hb := mt_bad hbad
    clear hbad h
    rcases hb with h1 | ⟨h1, h2⟩ | ⟨h1, h2, h3⟩ | ⟨h1, h2, h3, h4⟩
    all_goals
      go_enter Tryz.func57, Tryz.ntmps57
      go_wp2
      go_ret2
      exact mt_postB E.out rfl (Nat.le_refl _) Rd.zero (Since.refl _) (fun b o e => by cases e)
  obtain ⟨G, rfl⟩ : ∃ G : Nat, g = G := ⟨g.toNat, by omega⟩
  obtain ⟨C, rfl⟩ : ∃ C : Nat, c = C := ⟨c.toNat, by omega⟩
  have hG1 : (1 : Int) ≤ G := by omega
  have hG2 : (G : Int) ≤ 1024 := by omega
  have hC1 : (1 : Int) ≤ C := by omega
  have hC2 : (C : Int) ≤ G := by omega
  by_cases h3 : (n : Int) < 4 * C + 2 * ((G : Int) - C)
  · have E := Lib.hid (show mtE n C G = 3 by unfold mtE; rw [if_neg hbad, if_pos h3])
    clear hbad h
    go_enter Tryz.func57, Tryz.ntmps57
    go_wp2
    go_ret2
    exact mt_postB E.out rfl (Nat.le_refl _) Rd.zero (Since.refl _) (fun b o e => by cases e)
  · have E := Lib.hid (show mtE n C G = 0 by unfold mtE; rw [if_neg hbad, if_neg h3])
    have b1 : 16 * G ≤ 281474976710656 := by omega
    have b2 : G ≤ maxLen := by simp only [maxLen]; omega
    clear hbad
    go_enter Tryz.func57, Tryz.ntmps57
    go_wp2_with (at_make; refine wpList_make_k _ (by rfl) _ _ _ (by rfl) 89 i0 _ 2 16 Tryz.underlying27 hi0 hz0 hz1 hz2 (fun _ => .int .i64 0) zero_mt .i64 .i64 G (by rfl) (by rfl) b1 b2 ?_; intro w1 hown1 hS1)
    have hrow := row_of_own_k (by omega) hown1
    clear hown1
    go_loopw [39] (fun y wr => ∃ j : Nat, j ≤ G ∧ y = .int .i64 (j : Int) ∧ Since w wr ∧ Row wr w.heap.size (G * 2) (mtPart (mtA f C) (mtB f C) (j * 2))) (fun y _ => G - (intOf y).toNat)
    case atStart => exact ⟨0, by omega, rfl, hS1, hrow.congr (fun q hq => by unfold mtPart; rw [if_neg (by omega)])⟩
    case round =>
      obtain ⟨j, hj, rfl, hSr, hR⟩ := hrel
      by_cases hjm : j < G
      · have hjm' : (j : Int) < (G : Int) := by omega
        have hr := h.on hSr
        have hc0 := hR.1 (j * 2) (by omega)
        have hc1 := hR.1 (j * 2 + 1) (by omega)
        have hf0 := hR.2.1 (j * 2)
        have hf1 := hR.2.1 (j * 2 + 1)
        clear hrow hS1
        by_cases hjC : j < C
        · have hjC' : (j : Int) < C := by omega
          have hU := u_inL A n d f (4 * j) 2 (4 * (j : Int)) 2 wr hr hf (by simp) rfl (by omega) (by omega) (by omega)
          have hX : mtA f C j = numAt f (4 * j) 2 := by unfold mtA; rw [if_pos hjC]
          have hY : mtB f C j = sgn 2 (numAt f (4 * j + 2) 2) := by unfold mtB; rw [if_pos hjC]
          have hSg : ∀ w2, Since w w2 → Calls Tryz.prog 103 #[.slice A n d, .int .i64 (4 * (j : Int) + 2), .int .i64 2] w2 fun e w' => e = .returned (.tuple #[.int .i64 (sgn 2 (numAt f (4 * j + 2) 2)), .int .i64 0]) ∧ w' = w2 := fun w2 hS => s_inL A n d f (4 * j + 2) 2 (4 * (j : Int) + 2) 2 w2 (h.on hS) hf (by simp) rfl (by omega) (by omega) (by omega)
          generalize numAt f (4 * j) 2 = x at *
          generalize sgn 2 (numAt f (4 * j + 2) 2) = y at *
          have HX := Lib.hid hX; have HY := Lib.hid hY; have HS := Lib.hid hSg
          clear hX hY hSg hr h
          go_wp2_with (first | (go_at_call 97; (with_reducible refine hU.mono ?_); rintro e w2 ⟨rfl, rfl⟩) | (go_at_call 103; refine (HS.out _ (by (repeat (first | with_reducible (exact Since.refl _) | with_reducible assumption | with_reducible (refine Since.drew ?_) | with_reducible (refine Since.drewN ?_ _) | with_reducible (refine Since.alloc ?_ _) | (with_reducible (refine Since.setCell ?_ ?_ _); rotate_left; focus (first | (simp; done) | (simp; omega) | omega)) | (with_reducible (refine Since.trans ?_ (by with_reducible assumption))))))).mono ?_; rintro e w3 ⟨rfl, rfl⟩))
          refine ⟨⟨j + 1, by omega, by simp, by (repeat (first | with_reducible (exact Since.refl _) | with_reducible assumption | with_reducible (refine Since.drew ?_) | with_reducible (refine Since.drewN ?_ _) | with_reducible (refine Since.alloc ?_ _) | (with_reducible (refine Since.setCell ?_ ?_ _); rotate_left; focus (first | (simp; done) | (simp; omega) | omega)) | (with_reducible (refine Since.trans ?_ (by with_reducible assumption))))), ((hR.set (j * 2) _).set (j * 2 + 1) _).congr (fun t ht => ?_)⟩, by simp [intOf]; omega⟩
          exact mtPart_two _ _ j t _ _ HX.out HY.out
        · have hjC' : ¬ (j : Int) < C := by omega
          have hX : mtA f C j = numAt f (4 * (C - 1)) 2 := by unfold mtA; rw [if_neg hjC]
          have hX0 : mtA f C (C - 1) = numAt f (4 * (C - 1)) 2 := by unfold mtA; rw [if_pos (by omega)]
          have hY : mtB f C j = sgn 2 (numAt f (4 * C + 2 * (j - C)) 2) := by unfold mtB; rw [if_neg hjC]
          have hk := hR.1 ((C - 1) * 2) (by omega)
          have hk' : mtPart (mtA f C) (mtB f C) (j * 2) ((C - 1) * 2) = .int .i64 (mtA f C (C - 1)) := by unfold mtPart; rw [if_pos (by omega), mtv_even]
          rw [hk', hX0] at hk
          have hSg : ∀ w2, Since w w2 → Calls Tryz.prog 103 #[.slice A n d, .int .i64 (4 * (C : Int) + 2 * ((j : Int) - C)), .int .i64 2] w2 fun e w' => e = .returned (.tuple #[.int .i64 (sgn 2 (numAt f (4 * C + 2 * (j - C)) 2)), .int .i64 0]) ∧ w' = w2 := fun w2 hS => s_inL A n d f (4 * C + 2 * (j - C)) 2 (4 * (C : Int) + 2 * ((j : Int) - C)) 2 w2 (h.on hS) hf (by omega) rfl (by omega) (by omega) (by omega)
          generalize numAt f (4 * (C - 1)) 2 = x at *
          generalize sgn 2 (numAt f (4 * C + 2 * (j - C)) 2) = y at *
          have HX := Lib.hid hX; have HY := Lib.hid hY; have HS := Lib.hid hSg
          clear hX hY hSg hr h hk' hX0
          go_wp2_with (first | (go_at_call 103; refine (HS.out _ (by (repeat (first | with_reducible (exact Since.refl _) | with_reducible assumption | with_reducible (refine Since.drew ?_) | with_reducible (refine Since.drewN ?_ _) | with_reducible (refine Since.alloc ?_ _) | (with_reducible (refine Since.setCell ?_ ?_ _); rotate_left; focus (first | (simp; done) | (simp; omega) | omega)) | (with_reducible (refine Since.trans ?_ (by with_reducible assumption))))))).mono ?_; rintro e w3 ⟨rfl, rfl⟩))
          refine ⟨⟨j + 1, by omega, by simp, by (repeat (first | with_reducible (exact Since.refl _) | with_reducible assumption | with_reducible (refine Since.drew ?_) | with_reducible (refine Since.drewN ?_ _) | with_reducible (refine Since.alloc ?_ _) | (with_reducible (refine Since.setCell ?_ ?_ _); rotate_left; focus (first | (simp; done) | (simp; omega) | omega)) | (with_reducible (refine Since.trans ?_ (by with_reducible assumption))))), ((hR.set (j * 2) _).set (j * 2 + 1) _).congr (fun t ht => ?_)⟩, by simp [intOf]; omega⟩
          exact mtPart_two _ _ j t _ _ HX.out HY.out
      · obtain rfl : j = G := by omega
        have hR' := hR.congr (g := MtV (mtA f C) (mtB f C)) (fun q hq => by unfold mtPart; rw [if_pos hq])
        clear hR hrow h
        go_wp2
        go_ret2
        exact mt_postB E.out rfl (Nat.le_refl _) (Rd.of_row hR') hSr (fun b o e => by injection e with e; injection e with e1 _; omega)

end Go.Proofs.YteckkcpnfeoehaaGreatDoor
