/-
  Layer 8: the laws CompoWrites, CompoReads, walked.
-/
import Derived.Test.YtbjjndficllogaaCoO
namespace Go.Proofs.Ytbjjndficllogaa
open Go.RowKit Go.ChangeShapes Go.WideShapes Go.Deep
set_option linter.unusedVariables false
set_option linter.unusedSimpArgs false

set_option maxRecDepth 100000 in
set_option maxHeartbeats 8000000 in
theorem walk_compowrites (A : Option Addr) (n c : Nat) (L : List Pt8) (B : Option Addr) (m d : Nat) (C : List Int) (lx ly mx my : Int) (w : World) (h : RdP8 w w.heap.size A L) (hn : n = L.length) (hC : RdB w w.heap.size B C) (hm : m = C.length) (hnn : L.length ≤ maxLen) (hm9 : m ≤ 1125899906842624) :
    Calls Try.prog 10 #[.slice A n c, .slice B m d, .agg #[.int .i64 lx, .int .i64 ly, .int .i64 mx, .int .i64 my]] w fun e w' => e = .returned (.bool true) ∧ Since w w' := by
  have hni : (n : Int) ≤ 9223372036854775807 := by subst hn; simp only [maxLen] at hnn; omega
  by_cases h7 : 200 < n
  · have d1 : decide ((200 : Int) < n) = true := by simp; omega
    clear h hC hn hm
    go_enter Try.func10, Try.ntmps10
    go_wp2_with (go_at_call 26; (with_reducible refine (alive08 _).mono ?_); rintro e w1 ⟨rfl, hSa⟩; have hS1 : Since w w1 := (by (repeat (first | with_reducible (exact Since.refl _) | with_reducible assumption | with_reducible (refine Since.drew ?_) | with_reducible (refine Since.drewN ?_ _) | with_reducible (refine Since.alloc ?_ _) | (with_reducible (refine Since.setCell ?_ ?_ _); rotate_left; focus (first | (simp; done) | (simp; omega) | omega)) | (with_reducible (refine Since.trans ?_ (by with_reducible assumption)))))))
    go_ret
    exact ⟨by first | rfl | simp, hS1⟩
  have d1 : decide ((200 : Int) < n) = false := by simp; omega
  by_cases h8 : 70000 < m
  · have d2 : decide ((70000 : Int) < m) = true := by simp; omega
    clear h hC hn hm
    go_enter Try.func10, Try.ntmps10
    go_wp2_with (go_at_call 26; (with_reducible refine (alive08 _).mono ?_); rintro e w1 ⟨rfl, hSa⟩; have hS1 : Since w w1 := (by (repeat (first | with_reducible (exact Since.refl _) | with_reducible assumption | with_reducible (refine Since.drew ?_) | with_reducible (refine Since.drewN ?_ _) | with_reducible (refine Since.alloc ?_ _) | (with_reducible (refine Since.setCell ?_ ?_ _); rotate_left; focus (first | (simp; done) | (simp; omega) | omega)) | (with_reducible (refine Since.trans ?_ (by with_reducible assumption)))))))
    go_ret
    exact ⟨by first | rfl | simp, hS1⟩
  have d2 : decide ((70000 : Int) < m) = false := by simp; omega
  have hn7 : n ≤ 200 := by omega
  have hm7 : m ≤ 70000 := by omega
  have hL7 : L.length ≤ 200 := by omega
  have hC7 : C.length ≤ 70000 := by omega
  have hLM : L.length ≤ maxLen := by simp only [maxLen]; omega
  have H0 := Lib.hid h
  have HC := Lib.hid hC
  have HN := Lib.hid hn
  have HM := Lib.hid hm
  have HX : ∃ X, X = wrA8 L C [lx, ly, mx, my] := ⟨_, rfl⟩
  obtain ⟨X, hX⟩ := HX
  obtain ⟨E, hE⟩ : ∃ E, E = wrE8 L C [lx, ly, mx, my] := ⟨_, rfl⟩
  have HW := Lib.hid fun (A : Option Addr) (c : Nat) (B : Option Addr) (d : Nat) (w2 : World) (h : RdP8 w2 w2.heap.size A L) (hC : RdB w2 w2.heap.size B C) => (show Calls Try.prog 30 #[.slice A n c, .slice B m d, .agg #[.int .i64 lx, .int .i64 ly], .agg #[.int .i64 mx, .int .i64 my]] w2 (fun e w' => ∃ v, e = .returned (.tuple #[v, .int .i64 E]) ∧ OwnB w' w2.heap.size v X ∧ Since w2 w') from by rw [hE, hX]; exact co_write8 A n c L B m d C lx ly mx my w2 h hn hC hm hLM (by omega))
  have HV := Lib.hid fun (A : Option Addr) (c : Nat) (B : Option Addr) (d : Nat) (w2 : World) (h : RdP8 w2 w2.heap.size A L) (hC : RdB w2 w2.heap.size B C) => (show Calls Try.prog 31 #[.slice A n c, .slice B m d, .agg #[.int .i64 lx, .int .i64 ly], .agg #[.int .i64 mx, .int .i64 my]] w2 (fun e w' => ∃ v, e = .returned (.tuple #[v, .int .i64 E]) ∧ OwnB w' w2.heap.size v X ∧ Since w2 w') from by rw [hE, hX]; exact rf_write8 A n c L B m d C lx ly mx my w2 h hn hC hm hLM (by omega))
  have HLL := Lib.hid (show (List.nil ++ L : List Pt8) = L from rfl)
  clear h hC hn hm hX hE h7 h8
  go_enter Try.func10, Try.ntmps10
  go_wp2_with (first | (go_at_call 26; (with_reducible refine (alive08 _).mono ?_); rintro e w1 ⟨rfl, hSa⟩; have hS1 : Since w w1 := (by (repeat (first | with_reducible (exact Since.refl _) | with_reducible assumption | with_reducible (refine Since.drew ?_) | with_reducible (refine Since.drewN ?_ _) | with_reducible (refine Since.alloc ?_ _) | (with_reducible (refine Since.setCell ?_ ?_ _); rotate_left; focus (first | (simp; done) | (simp; omega) | omega)) | (with_reducible (refine Since.trans ?_ (by with_reducible assumption)))))); have k0 : w1.cell? ⟨w.heap.size, 0, none⟩ = some (.int .i64 lx) := (hSa.1 _ _ (by simp)).trans (by simp); have k1 : w1.cell? ⟨w.heap.size, 1, none⟩ = some (.int .i64 ly) := (hSa.1 _ _ (by simp)).trans (by simp); have k2 : w1.cell? ⟨w.heap.size, 2, none⟩ = some (.int .i64 mx) := (hSa.1 _ _ (by simp)).trans (by simp); have k3 : w1.cell? ⟨w.heap.size, 3, none⟩ = some (.int .i64 my) := (hSa.1 _ _ (by simp)).trans (by simp); have kz := hSa.2.2.1 w.heap.size (by simp); clear hSa) | (at_builtin; refine wpList_append_g rfl _ _ 58 96 rfl (by omega) ptV_len ptV_one 56 Try.underlying58 infoPt w.heap.size _ [] rfl (OwnG.empty _ w1 w.heap.size _ rfl hS1.below.size) _ A c L (by rw [← HN.out]; rfl) ((H0.out.on hS1).on ((Since.refl w1).alloc _)) ?_ ?_ ?_ ?_; (focus (rw [List.length_nil]; omega)); (focus (rw [List.length_nil]; simp only [maxLen]; omega)); (focus (have := hS1.below.size; simp; omega)); intro v2 w2 hO2 hg2 hb2; have hS12 : Since w1 w2 := (since_grown ((Since.refl w1).alloc _) hg2 (fun q hq => Nat.le_of_eq (Option.some.inj hq))); rw [List.nil_append] at hO2; obtain ⟨A2, c2, rfl, hc2, hP2⟩ := hO2.rd (by omega) ptV_len; rw [← HN.out] at hc2 ⊢; have hS2 := hS1.trans hS12; have k0 := (hS12.1 _ _ kz).trans k0; have k1 := (hS12.1 _ _ kz).trans k1; have k2 := (hS12.1 _ _ kz).trans k2; have k3 := (hS12.1 _ _ kz).trans k3; have kz := hS12.2.2.1 _ kz; clear hg2 hb2 hO2) | (go_at_call 15; (with_reducible refine (copy_l B m d C _ HM.out (HC.out.on hS2) (by omega)).mono ?_); rintro e w3 ⟨g3, c3, rfl, hc3, _, _, hR3, hS23⟩; have hS3 := hS2.trans hS23; have hP3 := hP2.on hS23; have k0 := (hS23.1 _ _ kz).trans k0; have k1 := (hS23.1 _ _ kz).trans k1; have k2 := (hS23.1 _ _ kz).trans k2; have k3 := (hS23.1 _ _ kz).trans k3; have kz := hS23.2.2.1 _ kz; clear hP2) | (go_at_call 30; (with_reducible refine (HW.out _ _ _ _ _ hP3 hR3).mono ?_); rintro e w4 ⟨v4, rfl, hO4, hS34⟩; have hS4 := hS3.trans hS34; have hP4 := hP3.on hS34; have hR4 := hR3.on hS34; have k0 := (hS34.1 _ _ kz).trans k0; have k1 := (hS34.1 _ _ kz).trans k1; have k2 := (hS34.1 _ _ kz).trans k2; have k3 := (hS34.1 _ _ kz).trans k3; have kz := hS34.2.2.1 _ kz; obtain ⟨A4, c4, rfl, hc4, hX4⟩ := hO4.rd (by omega) byL_len; clear hP3 hR3 hO4) | (go_at_call 31; (with_reducible refine (HV.out _ _ _ _ _ (H0.out.on hS4) (HC.out.on hS4)).mono ?_); rintro e w5 ⟨v5, rfl, hO5, hS45⟩; have hS5 := hS4.trans hS45; have hP5 := hP4.on hS45; have hR5 := hR4.on hS45; have hX5 := hX4.on hS45; obtain ⟨A5, c5, rfl, hc5, hY5⟩ := hO5.rd (by omega) byL_len; clear hP4 hR4 hX4 hO5 k0 k1 k2 k3; have tk1 := True.intro) | (go_at_call 19; have _t := tk1; (with_reducible refine (same_l A4 A5 _ _ _ _ X X _ rfl rfl hX5 hY5 rfl).mono ?_); rintro e w6 ⟨rfl, hw6⟩; have hw7 := hw6.symm; subst hw7; clear hw6 tk1; have tk2 := True.intro) | (go_at_call 29; (with_reducible refine (rf_same8 A2 A n n _ _ L _ hP5 (H0.out.on hS5) HN.out HN.out hLM).mono ?_); rintro e w7 ⟨rfl, hS57⟩; have hS7 := hS5.trans hS57; have hR7 := hR5.on hS57) | (go_at_call 19; have _t := tk2; (with_reducible refine (same_l _ B m m _ _ C C _ HM.out HM.out hR7 (HC.out.on hS7) rfl).mono ?_); rintro e w8 ⟨rfl, rfl⟩; clear tk2))
  go_ret
  exact ⟨by first | rfl | simp, hS7⟩
theorem ans_sum (f : Nat → Int) (n : Nat) (hf : ∀ j, j < n → 0 ≤ f j ∧ f j ≤ 255) : ∃ (Q : List Pt8) (m : Nat) (E : Int) (G : Nat → Int), Q.length ≤ 64 ∧ m ≤ 65535 ∧ ∀ e w1 w2, RdPost8 f n w1 e w2 → ∃ A1 c1 A2 c2, e = .returned (.tuple #[.slice A1 Q.length c1, .slice A2 m c2, .int .i64 E]) ∧ RdP8 w2 w2.heap.size A1 Q ∧ m ≤ c2 ∧ Nw w2 w1.heap.size A2 m (U8 G) ∧ Since w1 w2 := by
  refine ⟨(rdAns8 f n).L, (rdAns8 f n).m, (rdAns8 f n).e, fun j => f ((rdAns8 f n).s + j), ?_, ?_, fun e w1 w2 h => h⟩
  · by_cases h : (rdAns8 f n).e = 0
    · exact (ans_ok hf h).2.1
    · rw [(ans_no h).1]; simp
  · by_cases h : (rdAns8 f n).e = 0
    · exact (ans_ok hf h).2.2.2.1
    · rw [(ans_no h).2]; omega
def Rl8 (w2 : World) (gq m : Nat) (y : Value) (wr : World) : Prop := ∃ (j : Nat) (F : Nat → Int), j ≤ m ∧ y = .int .i64 (j : Int) ∧ Row wr gq m (U8 F) ∧ Since w2 wr
theorem rl8_next {w2 wr : World} {gq m j : Nat} {F : Nat → Int} {z x : Int} (hR : Row wr gq m (U8 F)) (hj : j < m) (hS : Since w2 wr) (hg : w2.heap.size ≤ gq) (hx : x = ((j + 1 : Nat) : Int)) : Rl8 w2 gq m (.int .i64 x) (wr.setCell ⟨gq, j, none⟩ (.int .u8 z)) :=
  ⟨j + 1, fun t => if t = j then z else F t, hj, by rw [hx], (hR.set j _).congr (fun t ht => by simp only [U8, IntRow]; split <;> rfl), hS.setCell hg _⟩
set_option maxRecDepth 100000 in
set_option maxHeartbeats 8000000 in
theorem walk_comporeads (A : Option Addr) (n c : Nat) (L : List Int) (w : World) (h : RdB w w.heap.size A L) (hn : n = L.length) (hb : Bytes L) (hnn : n ≤ 140737488355328) (hnc : n ≤ c) :
    Calls Try.prog 9 #[.slice A n c] w fun e w' => e = .returned (.bool true) ∧ Since w w' := by
  have hbf := bytes_fn hb
  rw [← hn] at hbf
  obtain ⟨Q, m, E, G, hQ, hm, hsum⟩ := ans_sum (fnL L) n hbf
  have HS := Lib.hid hsum
  have HF := Lib.hid hbf
  have HB := Lib.hid hb
  have H0 := Lib.hid h
  have HN := Lib.hid hn
  have hQm : Q.length ≤ maxLen := by simp only [maxLen]; omega
  have hmi : (m : Int) ≤ 65535 := by omega
  clear hsum hbf hb h hn
  have tk1 := True.intro
  go_enter Try.func9, Try.ntmps9
  go_wp2_with (first | (go_at_call 26; (with_reducible refine (alive08 _).mono ?_); rintro e w1 ⟨rfl, hSa⟩; have hS1 : Since w w1 := (by (repeat (first | with_reducible (exact Since.refl _) | with_reducible assumption | with_reducible (refine Since.drew ?_) | with_reducible (refine Since.drewN ?_ _) | with_reducible (refine Since.alloc ?_ _) | (with_reducible (refine Since.setCell ?_ ?_ _); rotate_left; focus (first | (simp; done) | (simp; omega) | omega)) | (with_reducible (refine Since.trans ?_ (by with_reducible assumption))))))) | (go_at_call 15; (with_reducible refine (copy_l A n c L _ HN.out (H0.out.on hS1) (by rw [← HN.out]; exact hnn)).mono ?_); rintro e w2 ⟨g2, c2, rfl, hc2, hg2, _, hR2, hS12⟩; have hS2 := hS1.trans hS12) | (go_at_call 27; (with_reducible refine (read_l _ n c2 L _ HN.out hR2 HB.out hnn hc2).mono ?_); intro e w3 hp; obtain ⟨A3, c3, A4, c4, rfl, hP3, hc4, hN3, hS23⟩ := HS.out _ _ _ hp; have hS3 := hS2.trans hS23; clear hp) | (go_at_call 28; (with_reducible refine (rf_read8 A n c (fnL L) _ (rdb_rd' (H0.out.on hS3) HN.out) HF.out hnn hnc).mono ?_); intro e w4 hp; obtain ⟨A5, c5, A6, c6, rfl, hP4, hc6, hN4, hS34⟩ := HS.out _ _ _ hp; have hS4 := hS3.trans hS34; have hP3 := hP3.on hS34; have hN3 := hN3.since hS34; have hS24 := hS23.trans hS34; clear hp hS34 hS3 hS23) | (go_at_call 29; (with_reducible refine (rf_same8 A3 A5 _ _ _ _ Q _ hP3 hP4 rfl rfl hQm).mono ?_); rintro e w5 ⟨rfl, hS45⟩; have hS5 := hS4.trans hS45; have hN3 := hN3.since hS45; have hN4 := hN4.since hS45; have hS25 := hS24.trans hS45; clear hS24 hS45 hS4) | (go_at_call 19; have _t := tk1; (with_reducible refine (ref_same A4 A6 m _ _ G G _ hN3.rd hN4.rd (fun _ _ => rfl)).mono ?_); rintro e w6 ⟨rfl, hw6⟩; have hw7 := hw6.symm; subst hw7; clear hw6 tk1))
  by_cases hm0 : m = 0
  · subst hm0
    go_loopw [44] (fun y wr => y = .int .i64 0 ∧ wr = w5) (fun _ _ => 0)
    case atStart => exact ⟨rfl, rfl⟩
    case round =>
      obtain ⟨rfl, hwr⟩ := hrel
      have hwr2 := hwr.symm
      subst hwr2
      clear hwr
      go_wp2_with (go_at_call 19; (with_reducible refine (same_l _ A n n _ _ L L _ HN.out HN.out (hR2.on hS25) (H0.out.on hS5) rfl).mono ?_); rintro e w8 ⟨rfl, rfl⟩)
      go_ret
      exact ⟨by first | rfl | simp, hS5⟩
  · obtain ⟨gq, rfl, hgq, hrow⟩ := hN3 (by omega)
    clear hN4 hP3 hP4
    go_loopw [44] (fun y wr => Rl8 w2 gq m y wr) (fun y _ => m - (intOf y).toNat)
    case atStart => exact ⟨0, G, by omega, rfl, hrow, hS25⟩
    case round =>
      obtain ⟨j, F, hj, rfl, hR, hS2r⟩ := hrel
      by_cases hjm : j < m
      · have hjm' : (j : Int) < m := by omega
        have hcell := hR.1 j hjm
        have hfr := hR.2.1 j
        have hlt := hR.2.2
        have hc : wr.cell? ⟨gq, j, none⟩ = some (.int .u8 (F j)) := hcell
        clear hcell
        go_wp2_with fail
        go_roundw
        case rel => exact rl8_next hR hjm hS2r hgq (by omega)
        case measure => simp [intOf]; omega
      · obtain rfl : j = m := by omega
        have hT := hS2.trans hS2r
        go_wp2_with (go_at_call 19; (with_reducible refine (same_l _ A n n _ _ L L _ HN.out HN.out (hR2.on hS2r) (H0.out.on hT) rfl).mono ?_); rintro e w8 ⟨rfl, rfl⟩)
        go_ret
        exact ⟨by first | rfl | simp, hT⟩
end Go.Proofs.Ytbjjndficllogaa
