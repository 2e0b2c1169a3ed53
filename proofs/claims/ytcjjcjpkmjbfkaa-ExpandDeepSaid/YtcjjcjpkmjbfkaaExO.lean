/-
  Layer 12: 'alive' holds.
-/
import Derived.Test.YtcjjcjpkmjbfkaaExN
import Derived.Test.YtcjjcjpkmjbfkaaMhJ
import Derived.Test.YtcjjcjpkmjbfkaaCoJ
import Derived.Test.YtcjjcjpkmjbfkaaSjB
namespace Go.Proofs.Ytcjjcjpkmjbfkaa
open Go.RowKit Go.ChangeShapes Go.WideShapes Go.Deep
set_option linter.unusedVariables false
set_option linter.unusedSimpArgs false
attribute [local go_sem] eq_pt7

def bB12 : List Int := [255, 255, 0, 0, 0, 0, 0, 0, 0, 0, 0, 2, 0, 0, 10, 246]
def cB12 : List Int := [255, 255, 0, 0, 0, 0, 0, 0, 0, 0, 0, 2, 0, 2, 0, 0]
def oK12 : List (List Kt) := [[⟨640, -640, true⟩, ⟨7040, -640, true⟩, ⟨640, 18560, true⟩]]
theorem bw12 : wrE8 [⟨0, 10, -10, 16384, 0, 0, 16384⟩] [] [0, 0, 0, 0] = 0 ∧ wrA8 [⟨0, 10, -10, 16384, 0, 0, 16384⟩] [] [0, 0, 0, 0] = bB12 := by decide +kernel
theorem cw12 : wrE8 [⟨2, 0, 0, 16384, 0, 0, 16384⟩] [] [0, 0, 0, 0] = 0 ∧ wrA8 [⟨2, 0, 0, 16384, 0, 0, 16384⟩] [] [0, 0, 0, 0] = cB12 := by decide +kernel
theorem of1_12 : (vis12 [trB, bB12, cB12] 17 1 0).e = 0 ∧ (vis12 [trB, bB12, cB12] 17 1 0).LL.map (fun L => L.map (fun k => (k.x, k.y, k.o))) = oK12.map (fun L => L.map (fun k => (k.x, k.y, k.o))) := by decide +kernel
theorem of2_12 : (vis12 [trB, bB12, cB12] 17 2 0).e = 10 := by decide +kernel
theorem of1_b : ∀ b, b ∈ [trB, bB12, cB12] → Bytes b := by unfold Bytes trB bB12 cB12; decide
theorem of1_l : ∀ b, b ∈ [trB, bB12, cB12] → b.length ≤ 140737488355328 := by unfold trB bB12 cB12; decide
theorem rdb_nil (w : World) (B : Nat) : RdB w B none [] := RdG.nil
/-- Three rows of bytes in a literal. -/
theorem rdbl_three {w : World} {b : Nat} (hb : b = w.heap.size) (t : TypeId) {A1 A2 A3 : Option Addr} {n1 n2 n3 c1 c2 c3 : Nat} {L1 L2 L3 : List Int} (k1 : n1 = L1.length) (k2 : n2 = L2.length) (k3 : n3 = L3.length) (d1 : n1 ≤ c1) (d2 : n2 ≤ c2) (d3 : n3 ≤ c3) (h1 : RdB w w.heap.size A1 L1) (h2 : RdB w w.heap.size A2 L2) (h3 : RdB w w.heap.size A3 L3) :
    RdBL (w.alloc (.cells #[.slice A1 n1 c1, .slice A2 n2 c2, .slice A3 n3 c3] t)) (w.alloc (.cells #[.slice A1 n1 c1, .slice A2 n2 c2, .slice A3 n3 c3] t)).heap.size (some ⟨b, 0, none⟩) [L1, L2, L3] := by
  have hS := (Since.refl w).alloc (.cells #[.slice A1 n1 c1, .slice A2 n2 c2, .slice A3 n3 c3] t)
  refine ⟨[⟨A1, n1, c1⟩, ⟨A2, n2, c2⟩, ⟨A3, n3, c3⟩], rfl, rdG_lit hb _ (fun j s hj i hi => ?_), fun j x M e1 e2 => ?_⟩
  · have hj3 : j = 0 ∨ j = 1 ∨ j = 2 := by
      have : j < 3 := by
        rcases Nat.lt_or_ge j 3 with h | h
        · exact h
        · rw [List.getElem?_eq_none (by simpa using h)] at hj; cases hj
      omega
    obtain rfl : i = 0 := by omega
    rcases hj3 with rfl | rfl | rfl <;> (simp only [List.getElem?_cons_zero, List.getElem?_cons_succ, Option.some.injEq] at hj; subst hj; rfl)
  · have hj3 : j = 0 ∨ j = 1 ∨ j = 2 := by
      have : j < 3 := by
        rcases Nat.lt_or_ge j 3 with h | h
        · exact h
        · rw [List.getElem?_eq_none (by simpa using h)] at e1; cases e1
      omega
    rcases hj3 with rfl | rfl | rfl <;> (simp only [List.getElem?_cons_zero, List.getElem?_cons_succ, Option.some.injEq] at e1 e2; subst e1 e2)
    · exact ⟨k1, d1, RdG.on h1 hS⟩
    · exact ⟨k2, d2, RdG.on h2 hS⟩
    · exact ⟨k3, d3, RdG.on h3 hS⟩
theorem out_kn (w : World) (b : Nat) (hb : b = w.heap.size) (t : TypeId) : RdKl (w.alloc (.cells #[.int .i64 640, .int .i64 (-640), .bool true, .int .i64 7040, .int .i64 (-640), .bool true, .int .i64 640, .int .i64 18560, .bool true] t)) (w.alloc (.cells #[.int .i64 640, .int .i64 (-640), .bool true, .int .i64 7040, .int .i64 (-640), .bool true, .int .i64 640, .int .i64 18560, .bool true] t)).heap.size (some ⟨b, 0, none⟩) [⟨640, -640, true⟩, ⟨7040, -640, true⟩, ⟨640, 18560, true⟩] :=
  rdG_lit hb _ (fun j s hj i hi => by
    have h3 : j = 0 ∨ j = 1 ∨ j = 2 := by
      have : j < 3 := by
        rcases Nat.lt_or_ge j 3 with h | h
        · exact h
        · rw [List.getElem?_eq_none (by simpa using h)] at hj; cases hj
      omega
    have hi3 : i = 0 ∨ i = 1 ∨ i = 2 := by omega
    rcases h3 with rfl | rfl | rfl <;> (simp only [List.getElem?_cons_zero, List.getElem?_cons_succ, Option.some.injEq] at hj; subst hj) <;> rcases hi3 with rfl | rfl | rfl <;> rfl)
theorem out_ct (w : World) (o : Obj) : RdOL (((w.alloc o).alloc (.cells #[.int .i64 640, .int .i64 (-640), .bool true, .int .i64 7040, .int .i64 (-640), .bool true, .int .i64 640, .int .i64 18560, .bool true] 62)).alloc (.cells #[.slice (some ⟨w.heap.size + 1, 0, none⟩) 3 3] 64)) (((w.alloc o).alloc (.cells #[.int .i64 640, .int .i64 (-640), .bool true, .int .i64 7040, .int .i64 (-640), .bool true, .int .i64 640, .int .i64 18560, .bool true] 62)).alloc (.cells #[.slice (some ⟨w.heap.size + 1, 0, none⟩) 3 3] 64)).heap.size (some ⟨w.heap.size + 1 + 1, 0, none⟩) oK12 :=
  rdol_one (L := [⟨640, -640, true⟩, ⟨7040, -640, true⟩, ⟨640, 18560, true⟩]) (c := 3) (b1 := w.heap.size + 1 + 1) (by simp) 64 (out_kn (w.alloc o) (w.heap.size + 1) (by simp) 62)
theorem al_same12 (A A' : Option Addr) (c c' : Nat) (w : World) (h : RdOL w w.heap.size A oK12) (h' : RdOL w w.heap.size A' oK12) :
    Calls Try.prog 12 #[.slice A 1 c, .slice A' 1 c'] w fun e w' => e = .returned (.bool true) ∧ Since w w' :=
  rf_sameL A A' c c' oK12 w h h' (by simp [oK12, maxLen]) (by simp [oK12, maxLen])
theorem al_of1 (A : Option Addr) (w : World) (h : RdBL w w.heap.size A [trB, bB12, cB12]) : Calls Try.prog 10 #[.slice A 3 3, .int .i64 1] w fun e w' => ∃ A c, e = .returned (.tuple #[.slice A 1 c, .int .i64 0]) ∧ RdOL w' w'.heap.size A oK12 ∧ Since w w' := by
  refine (ex_of A 3 3 [trB, bB12, cB12] 1 w h of1_b of1_l rfl (by omega)).mono ?_
  rintro e w' ⟨u, rfl, hO, hS⟩
  rw [of1_12.1, if_pos rfl, kt_inj of1_12.2] at hO
  obtain ⟨A, c, rfl, hc, hr⟩ := hO.rd
  exact ⟨A, c, by rw [of1_12.1]; rfl, hr, hS⟩
theorem al_of2 (A : Option Addr) (w : World) (h : RdBL w w.heap.size A [trB, bB12, cB12]) : Calls Try.prog 10 #[.slice A 3 3, .int .i64 2] w fun e w' => ∃ A c, e = .returned (.tuple #[.slice A 0 c, .int .i64 10]) ∧ Since w w' := by
  refine (ex_of A 3 3 [trB, bB12, cB12] 2 w h of1_b of1_l rfl (by omega)).mono ?_
  rintro e w' ⟨u, rfl, hO, hS⟩
  rw [of2_12, if_neg (by omega)] at hO
  obtain ⟨A, c, rfl, hc, hr⟩ := hO.rd
  exact ⟨A, c, by rw [of2_12]; rfl, hS⟩
theorem al_w7 (A : Option Addr) (w : World) (h : RdOL w w.heap.size A trK) : Calls Try.prog 17 #[.agg #[.slice A 1 1, .slice none 0 0]] w fun e w' => ∃ A c, e = .returned (.tuple #[.slice A 21 c, .int .i64 0]) ∧ 21 ≤ c ∧ RdB w' w'.heap.size A trB ∧ Since w w' := by
  refine (rf_write7 A 1 trK none 0 0 [] w h (by simp [trK]) (by simp [trK]) RdG.nil rfl (by simp)).mono ?_
  rintro e w' ⟨v, rfl, hO, hS⟩
  rw [tr_b] at hO
  obtain ⟨A, c, rfl, hc, hr⟩ := hO.rd (by omega) byL_len
  exact ⟨A, c, by rw [tr_e]; rfl, hc, hr, hS⟩

theorem al_wb (w : World) (b : Nat) (hb : b = w.heap.size) : Calls Try.prog 19 #[.slice (some ⟨b, 0, none⟩) 1 1, .slice none 0 0, .agg #[.int .i64 0, .int .i64 0], .agg #[.int .i64 0, .int .i64 0]] (w.alloc (.cells #[.int .i64 0, .int .i64 10, .int .i64 (-10), .int .i64 16384, .int .i64 0, .int .i64 0, .int .i64 16384] 44)) fun e w' => ∃ A c, e = .returned (.tuple #[.slice A 16 c, .int .i64 0]) ∧ 16 ≤ c ∧ RdB w' w'.heap.size A bB12 ∧ Since (w.alloc (.cells #[.int .i64 0, .int .i64 10, .int .i64 (-10), .int .i64 16384, .int .i64 0, .int .i64 0, .int .i64 16384] 44)) w' := by
  refine (rf_write8 _ 1 1 [⟨0, 10, (-10), 16384, 0, 0, 16384⟩] none 0 0 [] 0 0 0 0 _ (part_one w b hb _ 0 10 (-10) 16384 0 0 16384) rfl RdG.nil rfl (by simp [maxLen]) (by simp)).mono ?_
  rintro e w' ⟨v, rfl, hO, hS⟩
  rw [bw12.2] at hO
  obtain ⟨A, c, rfl, hc, hr⟩ := hO.rd (by omega) byL_len
  exact ⟨A, c, by rw [bw12.1]; rfl, hc, hr, hS⟩

theorem al_wc (w : World) (b : Nat) (hb : b = w.heap.size) : Calls Try.prog 19 #[.slice (some ⟨b, 0, none⟩) 1 1, .slice none 0 0, .agg #[.int .i64 0, .int .i64 0], .agg #[.int .i64 0, .int .i64 0]] (w.alloc (.cells #[.int .i64 2, .int .i64 0, .int .i64 (0), .int .i64 16384, .int .i64 0, .int .i64 0, .int .i64 16384] 44)) fun e w' => ∃ A c, e = .returned (.tuple #[.slice A 16 c, .int .i64 0]) ∧ 16 ≤ c ∧ RdB w' w'.heap.size A cB12 ∧ Since (w.alloc (.cells #[.int .i64 2, .int .i64 0, .int .i64 (0), .int .i64 16384, .int .i64 0, .int .i64 0, .int .i64 16384] 44)) w' := by
  refine (rf_write8 _ 1 1 [⟨2, 0, (0), 16384, 0, 0, 16384⟩] none 0 0 [] 0 0 0 0 _ (part_one w b hb _ 2 0 (0) 16384 0 0 16384) rfl RdG.nil rfl (by simp [maxLen]) (by simp)).mono ?_
  rintro e w' ⟨v, rfl, hO, hS⟩
  rw [cw12.2] at hO
  obtain ⟨A, c, rfl, hc, hr⟩ := hO.rd (by omega) byL_len
  exact ⟨A, c, by rw [cw12.1]; rfl, hc, hr, hS⟩

theorem al_plain (w : World) : Calls Try.prog 20 #[] w fun e w' => e = .returned (.agg #[.int .i64 16384, .int .i64 0, .int .i64 0, .int .i64 16384]) ∧ Since w w' := by
  go_enter Try.func20, Try.ntmps20
  go_wp2_with fail
  exact bodyPost_ret (by simp only [results, Try.results20]; go_simp) rfl ⟨rfl, by (repeat (first | with_reducible (exact Since.refl _) | with_reducible assumption | with_reducible (refine Since.drew ?_) | with_reducible (refine Since.drewN ?_ _) | with_reducible (refine Since.alloc ?_ _) | (with_reducible (refine Since.setCell ?_ ?_ _); rotate_left; focus (first | (simp; done) | (simp; omega) | omega)) | (with_reducible (refine Since.trans ?_ (by with_reducible assumption)))))⟩
theorem al_move12 (w : World) : Calls Try.prog 14 #[.agg #[.int .i64 0, .int .i64 0, .int .i64 0, .int .i64 0, .int .i64 16384, .int .i64 (-16384), .int .i64 0], .agg #[.int .i64 3, .int .i64 1]] w fun e w' => e = .returned (.agg #[.int .i64 (-1), .int .i64 3]) ∧ Since w w' :=
  ex_move ⟨0, 0, 0, 0, 16384, -16384, 0⟩ 3 1 w (by unfold P8Ok Sh; decide) (by omega) (by omega)
set_option maxRecDepth 100000 in
set_option maxHeartbeats 16000000 in
theorem alive12 (w : World) : Calls Try.prog 7 #[] w fun e w' => e = .returned (.bool true) ∧ Since w w' := by
  have tok1 : True := trivial
  have tok2 : True := trivial
  have hk1 := fun (w : World) => rdol_one (L := [⟨0, 0, true⟩, ⟨100, 0, true⟩, ⟨0, 300, true⟩]) (c := 3) (b1 := w.heap.size + 1) (by simp) 64 (tri_kn w w.heap.size rfl 62)
  go_enter Try.func7, Try.ntmps7
  go_upto_region 7 with (first | (go_at_call 17; (with_reducible refine (al_w7 _ _ (hk1 _)).mono ?_); rintro e w1 ⟨A1, c1, rfl, hc1, hB1, hS1⟩; have hT1 := (((Since.refl w).alloc _).alloc _).trans hS1) | (go_at_call 20; have _t := tok1; (with_reducible refine (al_plain _).mono ?_); rintro e w2 ⟨rfl, hS2⟩; clear tok1; have hT2 := hT1.trans hS2; have hB2 := RdG.on hB1 hS2) | (go_at_call 19; (with_reducible refine (al_wb _ _ rfl).mono ?_); rintro e w3 ⟨A3, c3, rfl, hc3, hB3, hS3⟩; have hX3 := ((Since.refl w2).alloc _).trans hS3; have hT3 := hT2.trans hX3; have hA3 := RdG.on hB2 hX3) | (go_at_call 20; have _t := tok2; (with_reducible refine (al_plain _).mono ?_); rintro e w4 ⟨rfl, hS4⟩; clear tok2; have hT4 := hT3.trans hS4; have hB4 := RdG.on hB3 hS4; have hA4 := RdG.on hA3 hS4) | (go_at_call 19; (with_reducible refine (al_wc _ _ rfl).mono ?_); rintro e w5 ⟨A5, c5, rfl, hc5, hB5, hS5⟩; have hX5 := ((Since.refl w4).alloc _).trans hS5; have hT5 := hT4.trans hX5; have hA5 := RdG.on hA4 hX5; have hC5 := RdG.on hB4 hX5) | (go_at_call 10; (with_reducible refine (al_of1 _ _ (rdbl_three (n1 := 21) (n2 := 16) (n3 := 16) (L1 := trB) (L2 := bB12) (L3 := cB12) rfl _ rfl rfl rfl hc1 hc3 hc5 hA5 hC5 hB5)).mono ?_); rintro e w6 ⟨A6, c6, rfl, hO6, hS6⟩; have hX6 := ((Since.refl w5).alloc _).trans hS6; have hT6 := hT5.trans hX6; have hA6 := RdG.on hA5 hX6; have hC6 := RdG.on hC5 hX6; have hB6 := RdG.on hB5 hX6) | (go_at_call 10; (with_reducible refine (al_of2 _ _ (rdbl_three (n1 := 21) (n2 := 16) (n3 := 16) (L1 := trB) (L2 := bB12) (L3 := cB12) rfl _ rfl rfl rfl hc1 hc3 hc5 hA6 hC6 hB6)).mono ?_); rintro e w7 ⟨A7, c7, rfl, hS7⟩; have hX7 := ((Since.refl w6).alloc _).trans hS7; have hT7 := hT6.trans hX7; have hO7 := hO6.on hX7) | (go_at_call 14; (with_reducible refine (al_move12 _).mono ?_); rintro e w8 ⟨rfl, hS8⟩; have hT8 := hT7.trans hS8; have hO8 := hO7.on hS8))
  have hP8 := two_new w8 w8.heap.size rfl (.int .i64 (-1)) (.int .i64 3) 47
  obtain ⟨p1, p2, p3, p4, p5⟩ := id hP8
  go_wp2_with (go_at_call 12; (with_reducible refine (al_same12 A6 _ c6 _ _ (((hO8.on ((Since.refl _).alloc _)).on ((Since.refl _).alloc _)).on ((Since.refl _).alloc _)) (out_ct _ _)).mono ?_); rintro e w9 ⟨rfl, hS9⟩; have hT9 := (((hT8.alloc _).alloc _).alloc _).trans hS9; have hP9 := ((hP8.since ((Since.refl _).alloc _)).since ((Since.refl _).alloc _)).since hS9; obtain ⟨q1, q2, _, _, q5⟩ := id hP9)
  go_ret
  exact ⟨by first | rfl | simp, hT9⟩
end Go.Proofs.Ytcjjcjpkmjbfkaa
