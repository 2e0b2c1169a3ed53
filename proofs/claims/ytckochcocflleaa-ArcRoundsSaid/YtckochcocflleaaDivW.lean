/-
  math/bits.Div64 over this translation: two words by one.
-/
import Derived.Test.YtckochcocflleaaDivA
import Derived.Test.YtckochcocflleaaDivM
import Derived.Test.YtckochcocflleaaBits
import Derived.Deep.QuietTactic
import Derived.BigQuiet
namespace Go.Proofs.Ytckochcocflleaa
open Go.RowKit
set_option linter.unusedVariables false

theorem div64_low (lo y : Int) (l0 : 0 ≤ lo) (l1 : lo < 18446744073709551616) (y0 : 0 < y) (y1 : y < 18446744073709551616) (w : World) :
    Calls Try.prog 102 #[.int .u64 0, .int .u64 lo, .int .u64 y] w fun e w' => e = .returned (.tuple #[.int .u64 (lo / y), .int .u64 (lo % y)]) ∧ Since w w' := by
  have h1 : (y == 0) = false := by simp; omega
  have h2 : decide (y ≤ 0) = false := by simp; omega
  go_enter Try.func102, Try.ntmps102
  go_wp2
  go_quiet (fail)
  go_wp2
  go_ret2
  exact ⟨rfl, by (repeat (first | with_reducible (exact Since.refl _) | with_reducible assumption | with_reducible (refine Since.drew ?_) | with_reducible (refine Since.drewN ?_ _) | with_reducible (refine Since.alloc ?_ _) | (with_reducible (refine Since.setCell ?_ ?_ _); rotate_left; focus (first | (simp; done) | (simp; omega) | omega)) | (with_reducible (refine Since.trans ?_ (by with_reducible assumption)))))⟩


set_option maxHeartbeats 2000000 in
theorem div64_walk (hi lo y yy y1 y0 u d1 d0 q1 v q0 r : Int) (a0 : 0 < hi) (a1 : hi < y) (l0 : 0 ≤ lo) (l1 : lo < 18446744073709551616) (yb : y < 18446744073709551616)
    (hYY : y * 2 ^ lz y = yy) (hY1 : yy / 4294967296 = y1) (hY0 : bits .and .u64 yy 4294967295 = y0)
    (hU : bits .or .u64 (IntKind.u64.wrap (hi * 2 ^ lz y)) (lo / 2 ^ (64 - lz y)) = u) (hL1 : IntKind.u64.wrap (lo * 2 ^ lz y) / 4294967296 = d1) (hL0 : bits .and .u64 (IntKind.u64.wrap (lo * 2 ^ lz y)) 4294967295 = d0)
    (hyy : y1 * 4294967296 + y0 = yy) (F1 : Half.Fit u d1 y1 y0) (F2 : Half.Fit v d0 y1 y0)
    (e1 : Half.digit u d1 y1 y0 = q1) (e2 : Half.rest u d1 y1 y0 = v) (e3 : Half.digit v d0 y1 y0 = q0) (e4 : Half.rest v d0 y1 y0 = r) (w : World) :
    Calls Try.prog 102 #[.int .u64 hi, .int .u64 lo, .int .u64 y] w fun e w' => e = .returned (.tuple #[.int .u64 (q1 * 4294967296 + q0), .int .u64 (r / 2 ^ lz y)]) ∧ Since w w' := by
  have h1 : (y == 0) = false := by simp; omega
  have h2 : decide (y ≤ hi) = false := by simp; omega
  have h3 : (hi == 0) = false := by simp; omega
  obtain ⟨s0, s1, s2⟩ := lz_facts (y := y) (by omega) yb
  rw [hYY] at s1 s2
  obtain ⟨g1, g2, g3, g4, g5, g6, g7, g8⟩ := id F1
  obtain ⟨c1, c2, _, _, _, _, c7, c8⟩ := id F2
  have st := Half.Rel.start F1
  have st2 := Half.Rel.start F2
  have hdiv : ∀ x : Int, 0 ≤ x → 0 ≤ x / y1 * y1 ∧ x / y1 * y1 ≤ x := fun x hx => ⟨Int.mul_nonneg (Int.ediv_nonneg (by omega) (by omega)) (by omega), Int.ediv_mul_le x (b := y1) (by omega)⟩
  obtain ⟨v1, v2⟩ := hdiv u (by omega)
  obtain ⟨v3, v4⟩ := hdiv v (by omega)
  clear hdiv
  have E1 : IntKind.u64.wrap (IntKind.u64.wrap (IntKind.u64.wrap (u * 4294967296) + d1) - IntKind.u64.wrap (q1 * yy)) = v := by
    have := Half.rest_eq u d1 y1 y0
    rw [e1, e2, hyy] at this
    simp only [IntKind.wrap_u64]
    generalize q1 * yy = p at *
    omega
  have hr := Half.rest_bd F2
  rw [e4, hyy] at hr
  obtain ⟨hr0, hr1⟩ := hr
  have E2 : IntKind.u64.wrap (IntKind.u64.wrap (IntKind.u64.wrap (v * 4294967296) + d0) - IntKind.u64.wrap (q0 * yy)) = r := by
    have := Half.rest_eq v d0 y1 y0
    rw [e3, e4, hyy] at this
    simp only [IntKind.wrap_u64]
    generalize q0 * yy = p at *
    omega
  have B1 := Half.digit_lt F1; have B2 := Half.digit_nonneg F1
  have B3 := Half.digit_lt F2; have B4 := Half.digit_nonneg F2
  rw [e1] at B1 B2; rw [e3] at B3 B4
  have hq1 := Lib.hid e1; have hq0 := Lib.hid e3
  clear e1 e2 e3 e4 hyy
  go_enter Try.func102, Try.ntmps102
  go_wp2_with (go_at_call 119; refine (leading64 y _ (by omega) yb).mono ?_; rintro e w' ⟨rfl, rfl⟩)
  clear hYY hY1 hY0 hU hL1 hL0
  go_loop [15, 16] (fun q r => ∃ Q R : Int, Half.Rel u d1 y1 y0 Q R ∧ q = .int .u64 Q ∧ r = .int .u64 R) (fun q _ => (intOf q).toNat)
  case atStart => exact ⟨_, _, st, rfl, rfl⟩
  case round =>
    clear st v1 v2
    obtain ⟨Q, R, hR, rfl, rfl⟩ := hrel
    obtain ⟨b1, b2, b3⟩ := hR.bounds F1
    obtain ⟨r1, r2, r3, r4, r5⟩ := id hR
    have hr1' := Lib.hid r1; clear r1
    by_cases t1 : 4294967296 ≤ Q ∨ 4294967296 * R + d1 < Q * y0
    · obtain ⟨n1, n2, n3⟩ := hR.again F1 t1
      by_cases t3 : 4294967296 ≤ R + y1
      · have hq := Half.broken F1 n1 n2 n3 t3
        rw [hq1.out] at hq
        obtain ⟨Q', rfl⟩ : ∃ Q', Q = Q' + 1 := ⟨Q - 1, by omega⟩
        have hq' : Q' = q1 := by omega
        subst hq'
        have t3' : decide (4294967296 ≤ R + y1) = true := by simpa using t3
        clear n1 n3 hq hR r3
        by_cases t4 : 4294967296 ≤ Q' + 1
        · have t1' : decide (4294967296 ≤ Q' + 1) = true := by simpa using t4
          go_wp2
          go_loop [18, 16] (fun q r => ∃ Q R : Int, Half.Rel v d0 y1 y0 Q R ∧ q = .int .u64 Q ∧ r = .int .u64 R) (fun q _ => (intOf q).toNat)
          case atStart => exact ⟨_, _, st2, rfl, rfl⟩
          case round =>
            clear st2 v3 v4
            obtain ⟨Q, R, hR, rfl, rfl⟩ := hrel
            obtain ⟨b1, b2, b3⟩ := hR.bounds F2
            obtain ⟨r1, r2, r3, r4, r5⟩ := id hR
            have hr1 := Lib.hid r1; clear r1
            by_cases t1 : 4294967296 ≤ Q ∨ 4294967296 * R + d0 < Q * y0
            · obtain ⟨n1, n2, n3⟩ := hR.again F2 t1
              by_cases t3 : 4294967296 ≤ R + y1
              · have hq := Half.broken F2 n1 n2 n3 t3
                rw [hq0.out] at hq
                obtain ⟨Q', rfl⟩ : ∃ Q', Q = Q' + 1 := ⟨Q - 1, by omega⟩
                have hq' : Q' = q0 := by omega
                subst hq'
                have t3' : decide (4294967296 ≤ R + y1) = true := by simpa using t3
                clear n1 n3 hq hR r3
                by_cases t4 : 4294967296 ≤ Q' + 1
                · have t1' : decide (4294967296 ≤ Q' + 1) = true := by simpa using t4
                  go_wp2
                  go_ret2
                  exact ⟨rfl, by (repeat (first | with_reducible (exact Since.refl _) | with_reducible assumption | with_reducible (refine Since.drew ?_) | with_reducible (refine Since.drewN ?_ _) | with_reducible (refine Since.alloc ?_ _) | (with_reducible (refine Since.setCell ?_ ?_ _); rotate_left; focus (first | (simp; done) | (simp; omega) | omega)) | (with_reducible (refine Since.trans ?_ (by with_reducible assumption)))))⟩
                · have t1' : decide (4294967296 ≤ Q' + 1) = false := by simpa using t4
                  have t2' : decide (4294967296 * R + d0 < (Q' + 1) * y0) = true := by simp; omega
                  go_wp2
                  go_ret2
                  exact ⟨rfl, by (repeat (first | with_reducible (exact Since.refl _) | with_reducible assumption | with_reducible (refine Since.drew ?_) | with_reducible (refine Since.drewN ?_ _) | with_reducible (refine Since.alloc ?_ _) | (with_reducible (refine Since.setCell ?_ ?_ _); rotate_left; focus (first | (simp; done) | (simp; omega) | omega)) | (with_reducible (refine Since.trans ?_ (by with_reducible assumption)))))⟩
              · have t3' : decide (4294967296 ≤ R + y1) = false := by simpa using t3
                have hnew : Half.Rel v d0 y1 y0 (Q - 1) (R + y1) := ⟨n1, n2, n3, by omega, by omega⟩
                clear n1 n3 hR r3
                by_cases t4 : 4294967296 ≤ Q
                · have t1' : decide (4294967296 ≤ Q) = true := by simpa using t4
                  go_wp2
                  go_round
                  case rel => exact ⟨_, _, hnew, rfl, rfl⟩
                  case measure => simp [intOf]; omega
                · have t1' : decide (4294967296 ≤ Q) = false := by simpa using t4
                  have t2' : decide (4294967296 * R + d0 < Q * y0) = true := by simp; omega
                  go_wp2
                  go_round
                  case rel => exact ⟨_, _, hnew, rfl, rfl⟩
                  case measure => simp [intOf]; omega
            · have hq := hR.done F2 (by omega)
              rw [hq0.out] at hq
              subst hq
              have t1' : decide (4294967296 ≤ Q) = false := by simp; omega
              have t2' : decide (4294967296 * R + d0 < Q * y0) = false := by simp; omega
              clear hR r3
              go_wp2
              go_ret2
              exact ⟨rfl, by (repeat (first | with_reducible (exact Since.refl _) | with_reducible assumption | with_reducible (refine Since.drew ?_) | with_reducible (refine Since.drewN ?_ _) | with_reducible (refine Since.alloc ?_ _) | (with_reducible (refine Since.setCell ?_ ?_ _); rotate_left; focus (first | (simp; done) | (simp; omega) | omega)) | (with_reducible (refine Since.trans ?_ (by with_reducible assumption)))))⟩
        · have t1' : decide (4294967296 ≤ Q' + 1) = false := by simpa using t4
          have t2' : decide (4294967296 * R + d1 < (Q' + 1) * y0) = true := by simp; omega
          go_wp2
          go_loop [18, 16] (fun q r => ∃ Q R : Int, Half.Rel v d0 y1 y0 Q R ∧ q = .int .u64 Q ∧ r = .int .u64 R) (fun q _ => (intOf q).toNat)
          case atStart => exact ⟨_, _, st2, rfl, rfl⟩
          case round =>
            clear st2 v3 v4
            obtain ⟨Q, R, hR, rfl, rfl⟩ := hrel
            obtain ⟨b1, b2, b3⟩ := hR.bounds F2
            obtain ⟨r1, r2, r3, r4, r5⟩ := id hR
            have hr1 := Lib.hid r1; clear r1
            by_cases t1 : 4294967296 ≤ Q ∨ 4294967296 * R + d0 < Q * y0
            · obtain ⟨n1, n2, n3⟩ := hR.again F2 t1
              by_cases t3 : 4294967296 ≤ R + y1
              · have hq := Half.broken F2 n1 n2 n3 t3
                rw [hq0.out] at hq
                obtain ⟨Q', rfl⟩ : ∃ Q', Q = Q' + 1 := ⟨Q - 1, by omega⟩
                have hq' : Q' = q0 := by omega
                subst hq'
                have t3' : decide (4294967296 ≤ R + y1) = true := by simpa using t3
                clear n1 n3 hq hR r3
                by_cases t4 : 4294967296 ≤ Q' + 1
                · have t1' : decide (4294967296 ≤ Q' + 1) = true := by simpa using t4
                  go_wp2
                  go_ret2
                  exact ⟨rfl, by (repeat (first | with_reducible (exact Since.refl _) | with_reducible assumption | with_reducible (refine Since.drew ?_) | with_reducible (refine Since.drewN ?_ _) | with_reducible (refine Since.alloc ?_ _) | (with_reducible (refine Since.setCell ?_ ?_ _); rotate_left; focus (first | (simp; done) | (simp; omega) | omega)) | (with_reducible (refine Since.trans ?_ (by with_reducible assumption)))))⟩
                · have t1' : decide (4294967296 ≤ Q' + 1) = false := by simpa using t4
                  have t2' : decide (4294967296 * R + d0 < (Q' + 1) * y0) = true := by simp; omega
                  go_wp2
                  go_ret2
                  exact ⟨rfl, by (repeat (first | with_reducible (exact Since.refl _) | with_reducible assumption | with_reducible (refine Since.drew ?_) | with_reducible (refine Since.drewN ?_ _) | with_reducible (refine Since.alloc ?_ _) | (with_reducible (refine Since.setCell ?_ ?_ _); rotate_left; focus (first | (simp; done) | (simp; omega) | omega)) | (with_reducible (refine Since.trans ?_ (by with_reducible assumption)))))⟩
              · have t3' : decide (4294967296 ≤ R + y1) = false := by simpa using t3
                have hnew : Half.Rel v d0 y1 y0 (Q - 1) (R + y1) := ⟨n1, n2, n3, by omega, by omega⟩
                clear n1 n3 hR r3
                by_cases t4 : 4294967296 ≤ Q
                · have t1' : decide (4294967296 ≤ Q) = true := by simpa using t4
                  go_wp2
                  go_round
                  case rel => exact ⟨_, _, hnew, rfl, rfl⟩
                  case measure => simp [intOf]; omega
                · have t1' : decide (4294967296 ≤ Q) = false := by simpa using t4
                  have t2' : decide (4294967296 * R + d0 < Q * y0) = true := by simp; omega
                  go_wp2
                  go_round
                  case rel => exact ⟨_, _, hnew, rfl, rfl⟩
                  case measure => simp [intOf]; omega
            · have hq := hR.done F2 (by omega)
              rw [hq0.out] at hq
              subst hq
              have t1' : decide (4294967296 ≤ Q) = false := by simp; omega
              have t2' : decide (4294967296 * R + d0 < Q * y0) = false := by simp; omega
              clear hR r3
              go_wp2
              go_ret2
              exact ⟨rfl, by (repeat (first | with_reducible (exact Since.refl _) | with_reducible assumption | with_reducible (refine Since.drew ?_) | with_reducible (refine Since.drewN ?_ _) | with_reducible (refine Since.alloc ?_ _) | (with_reducible (refine Since.setCell ?_ ?_ _); rotate_left; focus (first | (simp; done) | (simp; omega) | omega)) | (with_reducible (refine Since.trans ?_ (by with_reducible assumption)))))⟩
      · have t3' : decide (4294967296 ≤ R + y1) = false := by simpa using t3
        have hnew : Half.Rel u d1 y1 y0 (Q - 1) (R + y1) := ⟨n1, n2, n3, by omega, by omega⟩
        clear n1 n3 hR r3 st2 v3 v4
        by_cases t4 : 4294967296 ≤ Q
        · have t1' : decide (4294967296 ≤ Q) = true := by simpa using t4
          go_wp2
          go_round
          case rel => exact ⟨_, _, hnew, rfl, rfl⟩
          case measure => simp [intOf]; omega
        · have t1' : decide (4294967296 ≤ Q) = false := by simpa using t4
          have t2' : decide (4294967296 * R + d1 < Q * y0) = true := by simp; omega
          go_wp2
          go_round
          case rel => exact ⟨_, _, hnew, rfl, rfl⟩
          case measure => simp [intOf]; omega
    · have hq := hR.done F1 (by omega)
      rw [hq1.out] at hq
      subst hq
      have t1' : decide (4294967296 ≤ Q) = false := by simp; omega
      have t2' : decide (4294967296 * R + d1 < Q * y0) = false := by simp; omega
      clear hR r3
      go_wp2
      go_loop [18, 16] (fun q r => ∃ Q R : Int, Half.Rel v d0 y1 y0 Q R ∧ q = .int .u64 Q ∧ r = .int .u64 R) (fun q _ => (intOf q).toNat)
      case atStart => exact ⟨_, _, st2, rfl, rfl⟩
      case round =>
        clear st2 v3 v4
        obtain ⟨Q, R, hR, rfl, rfl⟩ := hrel
        obtain ⟨b1, b2, b3⟩ := hR.bounds F2
        obtain ⟨r1, r2, r3, r4, r5⟩ := id hR
        have hr1 := Lib.hid r1; clear r1
        by_cases t1 : 4294967296 ≤ Q ∨ 4294967296 * R + d0 < Q * y0
        · obtain ⟨n1, n2, n3⟩ := hR.again F2 t1
          by_cases t3 : 4294967296 ≤ R + y1
          · have hq := Half.broken F2 n1 n2 n3 t3
            rw [hq0.out] at hq
            obtain ⟨Q', rfl⟩ : ∃ Q', Q = Q' + 1 := ⟨Q - 1, by omega⟩
            have hq' : Q' = q0 := by omega
            subst hq'
            have t3' : decide (4294967296 ≤ R + y1) = true := by simpa using t3
            clear n1 n3 hq hR r3
            by_cases t4 : 4294967296 ≤ Q' + 1
            · have t1' : decide (4294967296 ≤ Q' + 1) = true := by simpa using t4
              go_wp2
              go_ret2
              exact ⟨rfl, by (repeat (first | with_reducible (exact Since.refl _) | with_reducible assumption | with_reducible (refine Since.drew ?_) | with_reducible (refine Since.drewN ?_ _) | with_reducible (refine Since.alloc ?_ _) | (with_reducible (refine Since.setCell ?_ ?_ _); rotate_left; focus (first | (simp; done) | (simp; omega) | omega)) | (with_reducible (refine Since.trans ?_ (by with_reducible assumption)))))⟩
            · have t1' : decide (4294967296 ≤ Q' + 1) = false := by simpa using t4
              have t2' : decide (4294967296 * R + d0 < (Q' + 1) * y0) = true := by simp; omega
              go_wp2
              go_ret2
              exact ⟨rfl, by (repeat (first | with_reducible (exact Since.refl _) | with_reducible assumption | with_reducible (refine Since.drew ?_) | with_reducible (refine Since.drewN ?_ _) | with_reducible (refine Since.alloc ?_ _) | (with_reducible (refine Since.setCell ?_ ?_ _); rotate_left; focus (first | (simp; done) | (simp; omega) | omega)) | (with_reducible (refine Since.trans ?_ (by with_reducible assumption)))))⟩
          · have t3' : decide (4294967296 ≤ R + y1) = false := by simpa using t3
            have hnew : Half.Rel v d0 y1 y0 (Q - 1) (R + y1) := ⟨n1, n2, n3, by omega, by omega⟩
            clear n1 n3 hR r3
            by_cases t4 : 4294967296 ≤ Q
            · have t1' : decide (4294967296 ≤ Q) = true := by simpa using t4
              go_wp2
              go_round
              case rel => exact ⟨_, _, hnew, rfl, rfl⟩
              case measure => simp [intOf]; omega
            · have t1' : decide (4294967296 ≤ Q) = false := by simpa using t4
              have t2' : decide (4294967296 * R + d0 < Q * y0) = true := by simp; omega
              go_wp2
              go_round
              case rel => exact ⟨_, _, hnew, rfl, rfl⟩
              case measure => simp [intOf]; omega
        · have hq := hR.done F2 (by omega)
          rw [hq0.out] at hq
          subst hq
          have t1' : decide (4294967296 ≤ Q) = false := by simp; omega
          have t2' : decide (4294967296 * R + d0 < Q * y0) = false := by simp; omega
          clear hR r3
          go_wp2
          go_ret2
          exact ⟨rfl, by (repeat (first | with_reducible (exact Since.refl _) | with_reducible assumption | with_reducible (refine Since.drew ?_) | with_reducible (refine Since.drewN ?_ _) | with_reducible (refine Since.alloc ?_ _) | (with_reducible (refine Since.setCell ?_ ?_ _); rotate_left; focus (first | (simp; done) | (simp; omega) | omega)) | (with_reducible (refine Since.trans ?_ (by with_reducible assumption)))))⟩
end Go.Proofs.Ytckochcocflleaa
