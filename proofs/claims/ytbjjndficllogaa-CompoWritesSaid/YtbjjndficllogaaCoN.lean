/-
  Layer 8: 'Same' of parts that read alike; the document's example.
-/
import Derived.Test.YtbjjndficllogaaCoM
import Derived.Test.YtbjjndficllogaaCoH
namespace Go.Proofs.Ytbjjndficllogaa
open Go.RowKit Go.ChangeShapes Go.WideShapes Go.Deep
set_option linter.unusedVariables false
set_option linter.unusedSimpArgs false

theorem eq_fourD (d : Nat) (w : World) (x0 x1 x2 x3 : Int) :
    (Op.equalIn (d + 1 + 1) 90 (.agg #[.int .i64 x0, .int .i64 x1, .int .i64 x2, .int .i64 x3]) (.agg #[.int .i64 x0, .int .i64 x1, .int .i64 x2, .int .i64 x3])).run Try.prog w = .ok true w := by
  obtain ⟨i, hi⟩ : ∃ i, Try.prog.info? 3 = some i := Option.isSome_iff_exists.1 (by kernel_rfl)
  rw [run_equalIn_array w (d + 1) (e := 3) (n := 4) (i := i) _ _ Try.underlying90 hi]
  have hc : Try.prog.cellsOf 3 = 1 := by kernel_rfl
  rw [hc]
  have hl : List.range 4 = [0, 1, 2, 3] := rfl
  rw [hl]
  have heq : ∀ (d : Nat) (a b : Int), (Op.equalIn (d + 1) 3 (.int .i64 a) (.int .i64 b)).run Try.prog w = .ok (a == b) w := fun d a b => run_equalIn_int w d _ _ _ a b Try.underlying3
  simp only [Op.eqItems]
  simp [go_sem, heq]
theorem eq_part (w : World) (g x y a0 a1 a2 a3 : Int) : (Op.equalIn 10000 96 (.agg #[.int .i64 g, .int .i64 x, .int .i64 y, .int .i64 a0, .int .i64 a1, .int .i64 a2, .int .i64 a3]) (.agg #[.int .i64 g, .int .i64 x, .int .i64 y, .int .i64 a0, .int .i64 a1, .int .i64 a2, .int .i64 a3])).run Try.prog w = .ok true w := by
  rw [run_equalIn_struct w 9999 96 _ _ (by kernel_rfl) (by kernel_rfl)]
  have heq : ∀ (d : Nat) (a b : Int) (w : World), (Op.equalIn (d + 1) 3 (.int .i64 a) (.int .i64 b)).run Try.prog w = .ok (a == b) w := fun d a b w => run_equalIn_int w d _ _ _ a b Try.underlying3
  have h4 := eq_fourD 9997 w a0 a1 a2 a3
  have hc : Try.prog.cellsOf 3 = 1 := by kernel_rfl
  have hc4 : Try.prog.cellsOf 90 = 4 := by kernel_rfl
  simp only [Program.fieldsOf, Try.underlying96]
  simp [go_sem, heq, h4, hc, hc4]
set_option maxRecDepth 100000 in
set_option maxHeartbeats 8000000 in
theorem rf_same8 (A A' : Option Addr) (n n' c c' : Nat) (L : List Pt8) (w : World) (h : RdP8 w w.heap.size A L) (h' : RdP8 w w.heap.size A' L) (hn : n = L.length) (hn' : n' = L.length) (hm : L.length ≤ maxLen) :
    Calls Try.prog 29 #[.slice A n c, .slice A' n' c'] w fun e w' => e = .returned (.bool true) ∧ Since w w' := by
  obtain rfl : n' = n := by omega
  have hni : (n' : Int) ≤ 9223372036854775807 := by simp only [maxLen] at hm; omega
  have HN := Lib.hid hn
  have H1 := Lib.hid h
  have H2 := Lib.hid h'
  have heq := eq_part
  clear hn hn' h h'
  go_enter Try.func29, Try.ntmps29
  go_wp2
  go_loopw [13] (fun y wr => ∃ j : Nat, j ≤ n' ∧ y = .int .i64 (j : Int) ∧ Since w wr) (fun y _ => n' - (intOf y).toNat)
  case atStart => exact ⟨0, by omega, rfl, Since.refl _⟩
  case round =>
    obtain ⟨j, hj, rfl, hS⟩ := hrel
    by_cases hjn : j < n'
    · have hjn' : (j : Int) < n' := by omega
      have hjL : j < L.length := by rw [← HN.out]; exact hjn
      obtain ⟨b, o, rfl, hb, hc⟩ := (H1.out.on hS) (by omega)
      obtain ⟨b', o', rfl, hb', hc'⟩ := (H2.out.on hS) (by omega)
      have hx : L[j]? = some L[j] := List.getElem?_eq_getElem hjL
      have k := hc j _ hx
      have k' := hc' j _ hx
      obtain ⟨P, hP⟩ : ∃ P, P = L[j] := ⟨_, rfl⟩
      rw [← hP] at k k'
      clear hc hc' hx hP hjL
      obtain ⟨g, x, y, a0, a1, a2, a3⟩ := P
      have q0 : wr.cell? ⟨b, o + j * 7, none⟩ = some (.int .i64 g) := k 0 (by omega)
      have q1 : wr.cell? ⟨b, o + j * 7 + 1, none⟩ = some (.int .i64 x) := k 1 (by omega)
      have q2 : wr.cell? ⟨b, o + j * 7 + 2, none⟩ = some (.int .i64 y) := k 2 (by omega)
      have q3 : wr.cell? ⟨b, o + j * 7 + 3, none⟩ = some (.int .i64 a0) := k 3 (by omega)
      have q4 : wr.cell? ⟨b, o + j * 7 + 4, none⟩ = some (.int .i64 a1) := k 4 (by omega)
      have q5 : wr.cell? ⟨b, o + j * 7 + 5, none⟩ = some (.int .i64 a2) := k 5 (by omega)
      have q6 : wr.cell? ⟨b, o + j * 7 + 6, none⟩ = some (.int .i64 a3) := k 6 (by omega)
      have p0 : wr.cell? ⟨b', o' + j * 7, none⟩ = some (.int .i64 g) := k' 0 (by omega)
      have p1 : wr.cell? ⟨b', o' + j * 7 + 1, none⟩ = some (.int .i64 x) := k' 1 (by omega)
      have p2 : wr.cell? ⟨b', o' + j * 7 + 2, none⟩ = some (.int .i64 y) := k' 2 (by omega)
      have p3 : wr.cell? ⟨b', o' + j * 7 + 3, none⟩ = some (.int .i64 a0) := k' 3 (by omega)
      have p4 : wr.cell? ⟨b', o' + j * 7 + 4, none⟩ = some (.int .i64 a1) := k' 4 (by omega)
      have p5 : wr.cell? ⟨b', o' + j * 7 + 5, none⟩ = some (.int .i64 a2) := k' 5 (by omega)
      have p6 : wr.cell? ⟨b', o' + j * 7 + 6, none⟩ = some (.int .i64 a3) := k' 6 (by omega)
      clear k k'
      go_wp2_with fail
      go_quiet (fail)
      go_wp2_with fail
      go_roundw
      case rel => exact ⟨j + 1, by omega, by go_num, hS.drewN _⟩
      case measure => simp [intOf]; omega
    · obtain rfl : j = n' := by omega
      go_wp2
      go_ret
      exact ⟨rfl, hS⟩
theorem read_l (A : Option Addr) (n c : Nat) (L : List Int) (w : World) (hn : n = L.length) (h : RdB w w.heap.size A L) (hb : Bytes L) (hnn : n ≤ 140737488355328) (hnc : n ≤ c) : Calls Try.prog 27 #[.slice A n c] w (RdPost8 (fnL L) n w) := by
  subst hn
  exact co_read A _ c (fnL L) w (rdb_rd h) (bytes_fn hb) hnn hnc
def exL : List Pt8 := [⟨5, 10, -10, 16384, 0, 0, 16384⟩]
def exB : List Int := [255, 255, 0, 0, 0, 0, 0, 0, 0, 0, 0, 2, 0, 5, 10, 246]
theorem ex_wr : wrE8 exL [] [0, 0, 0, 0] = 0 ∧ wrA8 exL [] [0, 0, 0, 0] = exB := by decide +kernel
theorem ex_rd : (rdAns8 (fnL exB) 16).e = 0 ∧ (rdAns8 (fnL exB) 16).L = exL ∧ (rdAns8 (fnL exB) 16).m = 0 := by decide +kernel
theorem al_write8 (w : World) (b : Nat) (hb : b = w.heap.size) : Calls Try.prog 30 #[.slice (some ⟨b, 0, none⟩) 1 1, .slice none 0 0, .agg #[.int .i64 0, .int .i64 0], .agg #[.int .i64 0, .int .i64 0]] (w.alloc (.cells #[.int .i64 5, .int .i64 10, .int .i64 (-10), .int .i64 16384, .int .i64 0, .int .i64 0, .int .i64 16384] 96)) fun e w' => ∃ A c, e = .returned (.tuple #[.slice A 16 c, .int .i64 0]) ∧ 16 ≤ c ∧ RdB w' w'.heap.size A exB ∧ Since (w.alloc (.cells #[.int .i64 5, .int .i64 10, .int .i64 (-10), .int .i64 16384, .int .i64 0, .int .i64 0, .int .i64 16384] 96)) w' := by
  refine (co_write8 _ 1 1 exL none 0 0 [] 0 0 0 0 _ (part_one w b hb _ 5 10 (-10) 16384 0 0 16384) rfl RdG.nil rfl (by simp [exL, maxLen]) (by simp)).mono ?_
  rintro e w' ⟨v, rfl, hO, hS⟩
  rw [ex_wr.2] at hO
  obtain ⟨A, c, rfl, hc, hr⟩ := hO.rd (by omega) byL_len
  exact ⟨A, c, by rw [ex_wr.1]; rfl, hc, hr, hS⟩
theorem al_read8 (A : Option Addr) (c : Nat) (w : World) (h : RdB w w.heap.size A exB) (hc : 16 ≤ c) : Calls Try.prog 27 #[.slice A 16 c] w fun e w' => ∃ A1 c1 A2 c2, e = .returned (.tuple #[.slice A1 1 c1, .slice A2 0 c2, .int .i64 0]) ∧ RdP8 w' w'.heap.size A1 exL ∧ Since w w' := by
  refine (read_l A 16 c exB w rfl h (by unfold Bytes exB; decide) (by omega) hc).mono ?_
  rintro e w' ⟨A1, c1, A2, c2, rfl, h1, _, _, hS⟩
  obtain ⟨e1, e2, e3⟩ := ex_rd
  rw [e2] at h1
  exact ⟨A1, c1, A2, c2, by rw [e1, e2, e3]; rfl, h1, hS⟩
theorem al_conv8 {w : World} {A : Option Addr} (h : RdB w w.heap.size A exB) (c : Nat) : (convert 22 9 (.slice A 16 c)).run Try.prog w = .ok (.string (strOfNums [255, 255, 0, 0, 0, 0, 0, 0, 0, 0, 0, 2, 0, 5, 10, 246])) w := (rdb_rd h).conv c
set_option maxRecDepth 100000 in
set_option maxHeartbeats 8000000 in
theorem alive08 (w : World) : Calls Try.prog 26 #[] w fun e w' => e = .returned (.bool true) ∧ Since w w' := by
  have kt : ((strOfNums [255, 255, 0, 0, 0, 0, 0, 0, 0, 0, 0, 2, 0, 5, 10, 246]).toList == [255, 255, 0, 0, 0, 0, 0, 0, 0, 0, 0, 2, 0, 5, 10, 246]) = true := by kernel_rfl
  go_enter Try.func26, Try.ntmps26
  go_wp2_with (first | (go_at_call 30; (with_reducible refine (al_write8 _ _ (by simp)).mono ?_); rintro e w1 ⟨A1, c1, rfl, hc1, hR1, hS1⟩; have hT1 : Since w w1 := (by (repeat (first | with_reducible (exact Since.refl _) | with_reducible assumption | with_reducible (refine Since.drew ?_) | with_reducible (refine Since.drewN ?_ _) | with_reducible (refine Since.alloc ?_ _) | (with_reducible (refine Since.setCell ?_ ?_ _); rotate_left; focus (first | (simp; done) | (simp; omega) | omega)) | (with_reducible (refine Since.trans ?_ (by with_reducible assumption)))))); have hP1 := (part_one w _ rfl 96 5 10 (-10) 16384 0 0 16384).on hS1; clear hS1) | (go_at_call 27; (with_reducible refine (al_read8 A1 c1 _ hR1 hc1).mono ?_); rintro e w2 ⟨A2, c2, A3, c3, rfl, hR2, hS2⟩; have hT2 := hT1.trans hS2; have kc := al_conv8 (hR1.on hS2) c1; have hP2 := hP1.on hS2; clear hP1 hT1) | (go_at_call 29; (with_reducible refine (rf_same8 A2 _ 1 1 _ _ exL _ hR2 hP2 (by simp [exL]) (by simp [exL]) (by simp [exL, maxLen])).mono ?_); rintro e w3 ⟨rfl, hS3⟩; have hT3 := hT2.trans hS3))
  go_ret
  exact ⟨by first | rfl | simp, hT3⟩
end Go.Proofs.Ytbjjndficllogaa
