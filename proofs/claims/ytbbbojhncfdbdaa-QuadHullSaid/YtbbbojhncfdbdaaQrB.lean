/-
  Layer 13: the reference's At, walked.
-/
import Derived.Test.YtbbbojhncfdbdaaQuD
import Derived.Test.YtbbbojhncfdbdaaQrA
namespace Go.Proofs.Ytbbbojhncfdbdaa
open Go.RowKit
set_option linter.unusedVariables false

theorem ref_line {a b l k p : Int} : l * p * a + 0 * 0 + k * p * b = lineI a b l k p := by
  unfold lineI
  rw [Int.add_mul, Int.zero_mul, Int.add_zero]
  congr 1 <;> ac_rfl
theorem ref_curve {a c b l k : Int} : l * l * a + 2 * k * l * c + k * k * b = curveI a c b l k := by
  unfold curveI
  congr 1
  · congr 1 <;> ac_rfl
  · ac_rfl
theorem sq_in {x y X : Int} (h1 : 0 ≤ x) (h2 : x ≤ X) (h3 : 0 ≤ y) (h4 : y ≤ X) : 0 ≤ x * y ∧ x * y ≤ X * X :=
  ⟨Int.mul_nonneg h1 h3, Int.mul_le_mul h2 h4 h3 (by omega)⟩
theorem line_ok {a b l k p : Int} (ha : Tny a) (hb : Tny b) (hl : 0 ≤ l) (hk : 0 ≤ k) (hs : l + k = p) (hp : p ≤ 1024) : PtOK a 0 b (l * p) 0 (k * p) := by
  have h1 := sq_in (X := 1024) hl (by omega) (by omega : 0 ≤ p) hp
  have h2 := sq_in (X := 1024) hk (by omega) (by omega : 0 ≤ p) hp
  unfold Tny at *
  have g1 := mul_in (x := a) (y := l * p) (X := 4194304) (Y := 1048576) (by omega) (by omega) (by omega) (by omega)
  have g2 := mul_in (x := b) (y := k * p) (X := 4194304) (Y := 1048576) (by omega) (by omega) (by omega) (by omega)
  rw [Int.mul_comm a] at g1
  rw [Int.mul_comm b] at g2
  unfold PtOK
  refine ⟨IntWalk.i64_in _ ?_, IntWalk.i64_in _ ?_, IntWalk.i64_in _ ?_, IntWalk.i64_in _ ?_, IntWalk.i64_in _ ?_⟩ <;> omega
theorem curve_ok {a c b l k : Int} (ha : Tny a) (hc : Tny c) (hb : Tny b) (hl : 0 ≤ l) (hk : 0 ≤ k) (hs : l + k ≤ 1024) : PtOK a c b (l * l) (2 * k * l) (k * k) := by
  have h1 := sq_in (X := 1024) hl (by omega) hl (by omega)
  have h2 := sq_in (X := 1024) hk (by omega) hk (by omega)
  have h3 := sq_in (X := 2048) (show 0 ≤ 2 * k by omega) (by omega) hl (by omega : l ≤ 2048)
  unfold Tny at *
  have g1 := mul_in (x := a) (y := l * l) (X := 4194304) (Y := 1048576) (by omega) (by omega) (by omega) (by omega)
  have g2 := mul_in (x := b) (y := k * k) (X := 4194304) (Y := 1048576) (by omega) (by omega) (by omega) (by omega)
  have g3 := mul_in (x := c) (y := 2 * k * l) (X := 4194304) (Y := 4194304) (by omega) (by omega) (by omega) (by omega)
  rw [Int.mul_comm a] at g1
  rw [Int.mul_comm b] at g2
  rw [Int.mul_comm c] at g3
  unfold PtOK
  refine ⟨IntWalk.i64_in _ ?_, IntWalk.i64_in _ ?_, IntWalk.i64_in _ ?_, IntWalk.i64_in _ ?_, IntWalk.i64_in _ ?_⟩ <;> omega

set_option maxHeartbeats 8000000 in
theorem rq_at_bad (s : Sg) (k n : Int) (h : argOK k n = false) (w : World) :
    Calls Try.prog 36 #[s.v, .int .i64 k, .int .i64 n] w fun e w' => e = .returned (.tuple #[Pt 0 0, .int .i64 2]) ∧ Since w w' := by
  unfold argOK at h
  simp only [decide_eq_false_iff_not] at h
  unfold Pt Sg.v
  by_cases h1 : n < 0
  · clear h
    go_enter Try.func36, Try.ntmps36
    go_wp2_with fail
    refine bodyPost_ret (by simp only [results, Try.results36]; go_simp) rfl ⟨rfl, ?_⟩
    (repeat (first | with_reducible (exact Since.refl _) | with_reducible assumption | with_reducible (refine Since.drew ?_) | with_reducible (refine Since.drewN ?_ _) | with_reducible (refine Since.alloc ?_ _) | (with_reducible (refine Since.setCell ?_ ?_ _); rotate_left; focus (first | (simp; done) | (simp; omega) | omega)) | (with_reducible (refine Since.trans ?_ (by with_reducible assumption)))))
  · by_cases h2 : 10 < n
    · clear h
      go_enter Try.func36, Try.ntmps36
      go_wp2_with fail
      refine bodyPost_ret (by simp only [results, Try.results36]; go_simp) rfl ⟨rfl, ?_⟩
      (repeat (first | with_reducible (exact Since.refl _) | with_reducible assumption | with_reducible (refine Since.drew ?_) | with_reducible (refine Since.drewN ?_ _) | with_reducible (refine Since.alloc ?_ _) | (with_reducible (refine Since.setCell ?_ ?_ _); rotate_left; focus (first | (simp; done) | (simp; omega) | omega)) | (with_reducible (refine Since.trans ?_ (by with_reducible assumption)))))
    · by_cases h3 : k < 0
      · clear h
        go_enter Try.func36, Try.ntmps36
        go_wp2_with fail
        refine bodyPost_ret (by simp only [results, Try.results36]; go_simp) rfl ⟨rfl, ?_⟩
        (repeat (first | with_reducible (exact Since.refl _) | with_reducible assumption | with_reducible (refine Since.drew ?_) | with_reducible (refine Since.drewN ?_ _) | with_reducible (refine Since.alloc ?_ _) | (with_reducible (refine Since.setCell ?_ ?_ _); rotate_left; focus (first | (simp; done) | (simp; omega) | omega)) | (with_reducible (refine Since.trans ?_ (by with_reducible assumption)))))
      · have h4 : (2 : Int) ^ n.toNat < k := by omega
        have hc := Lib.hid (fun w => rq_power 2 n (by decide) (by decide) (by omega) (by omega) w)
        generalize (2 : Int) ^ n.toNat = p at *
        clear h
        go_enter Try.func36, Try.ntmps36
        go_wp2_with (go_at_call 58; (with_reducible refine (hc.out _).mono ?_); rintro e w1 ⟨rfl, hS1⟩; have hZ := (zero2_new _ (w.heap.size + 1) (by simp) _).since hS1; have hS : Since w w1 := (by (repeat (first | with_reducible (exact Since.refl _) | with_reducible assumption | with_reducible (refine Since.drew ?_) | with_reducible (refine Since.drewN ?_ _) | with_reducible (refine Since.alloc ?_ _) | (with_reducible (refine Since.setCell ?_ ?_ _); rotate_left; focus (first | (simp; done) | (simp; omega) | omega)) | (with_reducible (refine Since.trans ?_ (by with_reducible assumption)))))); clear hS1; obtain ⟨⟨z1, z2, z3⟩, zF⟩ := hZ; have zF0 := zF 0; have zF1 := zF 1; clear zF)
        refine bodyPost_ret (by simp only [results, Try.results36]; go_simp) rfl ⟨rfl, ?_⟩
        (repeat (first | with_reducible (exact Since.refl _) | with_reducible assumption | with_reducible (refine Since.drew ?_) | with_reducible (refine Since.drewN ?_ _) | with_reducible (refine Since.alloc ?_ _) | (with_reducible (refine Since.setCell ?_ ?_ _); rotate_left; focus (first | (simp; done) | (simp; omega) | omega)) | (with_reducible (refine Since.trans ?_ (by with_reducible assumption)))))

set_option maxHeartbeats 8000000 in
theorem rq_at_far (s : Sg) (k n : Int) (h : argOK k n = true) (hr : inR s = false) (w : World) :
    Calls Try.prog 36 #[s.v, .int .i64 k, .int .i64 n] w fun e w' => e = .returned (.tuple #[Pt 0 0, .int .i64 6]) ∧ Since w w' := by
  have hg := fun w => rq_good s w
  rw [hr] at hg
  have HG := Lib.hid hg
  clear hg hr
  obtain ⟨h1, h2, h3, h4⟩ := arg_parts h
  have hc := Lib.hid (fun w => rq_power 2 n (by decide) (by decide) (by omega) (by omega) w)
  have hN := fun w b hb t => seg_new w b hb s t
  have HN := Lib.hid hN
  generalize (2 : Int) ^ n.toNat = p at *
  clear h hN
  unfold Pt Sg.v at *
  go_enter Try.func36, Try.ntmps36
  go_wp2_with (first | (go_at_call 58; (with_reducible refine (hc.out _).mono ?_); rintro e w1 ⟨rfl, hS1⟩; have hX1 := ((HN.out w _ rfl _).alloc _).since hS1; have hZ := (zero2_new _ (w.heap.size + 1) (by simp) _).since hS1; have hS : Since w w1 := (by (repeat (first | with_reducible (exact Since.refl _) | with_reducible assumption | with_reducible (refine Since.drew ?_) | with_reducible (refine Since.drewN ?_ _) | with_reducible (refine Since.alloc ?_ _) | (with_reducible (refine Since.setCell ?_ ?_ _); rotate_left; focus (first | (simp; done) | (simp; omega) | omega)) | (with_reducible (refine Since.trans ?_ (by with_reducible assumption)))))); clear hS1; have hX2 := hX1; obtain ⟨s1, s2, s3, s4, s5, s6, s7, s8⟩ := hX2) | (go_at_call 59; (with_reducible refine (HG.out _).mono ?_); rintro e w2 ⟨rfl, hS2⟩; have hZ2 := hZ.since hS2; have hS3 := hS.trans hS2; clear hS2 hS hX1 s1 s2 s3 s4 s5 s6 s7 s8 hZ; obtain ⟨⟨z1, z2, z3⟩, zF⟩ := hZ2; have zF0 := zF 0; have zF1 := zF 1; clear zF))
  refine bodyPost_ret (by simp only [results, Try.results36]; go_simp) rfl ⟨rfl, ?_⟩
  (repeat (first | with_reducible (exact Since.refl _) | with_reducible assumption | with_reducible (refine Since.drew ?_) | with_reducible (refine Since.drewN ?_ _) | with_reducible (refine Since.alloc ?_ _) | (with_reducible (refine Since.setCell ?_ ?_ _); rotate_left; focus (first | (simp; done) | (simp; omega) | omega)) | (with_reducible (refine Since.trans ?_ (by with_reducible assumption)))))
end Go.Proofs.Ytbbbojhncfdbdaa
