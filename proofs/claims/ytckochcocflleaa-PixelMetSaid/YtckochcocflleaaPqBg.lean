/-
  Texts of this seat, put together: each with its own head.
-/
import Derived.Test.YtckochcocflleaaPqBf
import Derived.Deep.QuietTactic
import Derived.BigQuiet

/-
  math/bits.Div64 over this translation: two words by one.
-/
namespace Go.Proofs.Ytckochcocflleaa
open Go.RowKit
set_option linter.unusedVariables false

theorem div64_low (lo y : Int) (l0 : 0 ≤ lo) (l1 : lo < 18446744073709551616) (y0 : 0 < y) (y1 : y < 18446744073709551616) (w : World) :
    Calls Try.prog 102 #[.int .u64 0, .int .u64 lo, .int .u64 y] w fun e w' => e = .returned (.tuple #[.int .u64 (lo / y), .int .u64 (lo % y)]) ∧ Since w w' := by
  have h1 : (y == 0) = false := by simp; omega
  have h2 : decide (y ≤ 0) = false := by simp; omega
  go_enter Try.func102, Try.ntmps102
  go_wp2
  go_quiet (fail)
  go_wp2
  go_ret2
  exact ⟨rfl, by (repeat (first | with_reducible (exact Since.refl _) | with_reducible assumption | with_reducible (refine Since.drew ?_) | with_reducible (refine Since.drewN ?_ _) | with_reducible (refine Since.alloc ?_ _) | (with_reducible (refine Since.setCell ?_ ?_ _); rotate_left; focus (first | (simp; done) | (simp; omega) | omega)) | (with_reducible (refine Since.trans ?_ (by with_reducible assumption)))))⟩


set_option maxHeartbeats 2000000 in
theorem div64_walk (hi lo y yy y1 y0 u d1 d0 q1 v q0 r : Int) (a0 : 0 < hi) (a1 : hi < y) (l0 : 0 ≤ lo) (l1 : lo < 18446744073709551616) (yb : y < 18446744073709551616)
    (hYY : y * 2 ^ lz y = yy) (hY1 : yy / 4294967296 = y1) (hY0 : bits .and .u64 yy 4294967295 = y0)
    (hU : bits .or .u64 (IntKind.u64.wrap (hi * 2 ^ lz y)) (lo / 2 ^ (64 - lz y)) = u) (hL1 : IntKind.u64.wrap (lo * 2 ^ lz y) / 4294967296 = d1) (hL0 : bits .and .u64 (IntKind.u64.wrap (lo * 2 ^ lz y)) 4294967295 = d0)
    (hyy : y1 * 4294967296 + y0 = yy) (F1 : Half.Fit u d1 y1 y0) (F2 : Half.Fit v d0 y1 y0)
    (e1 : Half.digit u d1 y1 y0 = q1) (e2 : Half.rest u d1 y1 y0 = v) (e3 : Half.digit v d0 y1 y0 = q0) (e4 : Half.rest v d0 y1 y0 = r) (w : World) :
    Calls Try.prog 102 #[.int .u64 hi, .int .u64 lo, .int .u64 y] w fun e w' => e = .returned (.tuple #[.int .u64 (q1 * 4294967296 + q0), .int .u64 (r / 2 ^ lz y)]) ∧ Since w w' := by
  have h1 : (y == 0) = false := by simp; omega
  have h2 : decide (y ≤ hi) = false := by simp; omega
  have h3 : (hi == 0) = false := by simp; omega
  obtain ⟨s0, s1, s2⟩ := lz_facts (y := y) (by omega) yb
  rw [hYY] at s1 s2
  obtain ⟨g1, g2, g3, g4, g5, g6, g7, g8⟩ := id F1
  obtain ⟨c1, c2, _, _, _, _, c7, c8⟩ := id F2
  have st := Half.Rel.start F1
  have st2 := Half.Rel.start F2
  have hdiv : ∀ x : Int, 0 ≤ x → 0 ≤ x / y1 * y1 ∧ x / y1 * y1 ≤ x := fun x hx => ⟨Int.mul_nonneg (Int.ediv_nonneg (by omega) (by omega)) (by omega), Int.ediv_mul_le x (b := y1) (by omega)⟩
  obtain ⟨v1, v2⟩ := hdiv u (by omega)
  obtain ⟨v3, v4⟩ := hdiv v (by omega)
  clear hdiv
  have E1 : IntKind.u64.wrap (IntKind.u64.wrap (IntKind.u64.wrap (u * 4294967296) + d1) - IntKind.u64.wrap (q1 * yy)) = v := by
    have := Half.rest_eq u d1 y1 y0
    rw [e1, e2, hyy] at this
    simp only [IntKind.wrap_u64]
    generalize q1 * yy = p at *
    omega
  have hr := Half.rest_bd F2
  rw [e4, hyy] at hr
  obtain ⟨hr0, hr1⟩ := hr
  have E2 : IntKind.u64.wrap (IntKind.u64.wrap (IntKind.u64.wrap (v * 4294967296) + d0) - IntKind.u64.wrap (q0 * yy)) = r := by
    have := Half.rest_eq v d0 y1 y0
    rw [e3, e4, hyy] at this
    simp only [IntKind.wrap_u64]
    generalize q0 * yy = p at *
    omega
  have B1 := Half.digit_lt F1; have B2 := Half.digit_nonneg F1
  have B3 := Half.digit_lt F2; have B4 := Half.digit_nonneg F2
  rw [e1] at B1 B2; rw [e3] at B3 B4
  have hq1 := Lib.hid e1; have hq0 := Lib.hid e3
  clear e1 e2 e3 e4 hyy
  go_enter Try.func102, Try.ntmps102
  go_wp2_with (go_at_call 119; refine (leading64 y _ (by omega) yb).mono ?_; rintro e w' ⟨rfl, rfl⟩)
  clear hYY hY1 hY0 hU hL1 hL0
  go_loop [15, 16] (fun q r => ∃ Q R : Int, Half.Rel u d1 y1 y0 Q R ∧ q = .int .u64 Q ∧ r = .int .u64 R) (fun q _ => (intOf q).toNat)
  case atStart => exact ⟨_, _, st, rfl, rfl⟩
  case round =>
    clear st v1 v2
    obtain ⟨Q, R, hR, rfl, rfl⟩ := hrel
    obtain ⟨b1, b2, b3⟩ := hR.bounds F1
    obtain ⟨r1, r2, r3, r4, r5⟩ := id hR
    have hr1' := Lib.hid r1; clear r1
    by_cases t1 : 4294967296 ≤ Q ∨ 4294967296 * R + d1 < Q * y0
    · obtain ⟨n1, n2, n3⟩ := hR.again F1 t1
      by_cases t3 : 4294967296 ≤ R + y1
      · have hq := Half.broken F1 n1 n2 n3 t3
        rw [hq1.out] at hq
        obtain ⟨Q', rfl⟩ : ∃ Q', Q = Q' + 1 := ⟨Q - 1, by omega⟩
        have hq' : Q' = q1 := by omega
        subst hq'
        have t3' : decide (4294967296 ≤ R + y1) = true := by simpa using t3
        clear n1 n3 hq hR r3
        by_cases t4 : 4294967296 ≤ Q' + 1
        · have t1' : decide (4294967296 ≤ Q' + 1) = true := by simpa using t4
          go_wp2
          go_loop [18, 16] (fun q r => ∃ Q R : Int, Half.Rel v d0 y1 y0 Q R ∧ q = .int .u64 Q ∧ r = .int .u64 R) (fun q _ => (intOf q).toNat)
          case atStart => exact ⟨_, _, st2, rfl, rfl⟩
          case round =>
            clear st2 v3 v4
            obtain ⟨Q, R, hR, rfl, rfl⟩ := hrel
            obtain ⟨b1, b2, b3⟩ := hR.bounds F2
            obtain ⟨r1, r2, r3, r4, r5⟩ := id hR
            have hr1 := Lib.hid r1; clear r1
            by_cases t1 : 4294967296 ≤ Q ∨ 4294967296 * R + d0 < Q * y0
            · obtain ⟨n1, n2, n3⟩ := hR.again F2 t1
              by_cases t3 : 4294967296 ≤ R + y1
              · have hq := Half.broken F2 n1 n2 n3 t3
                rw [hq0.out] at hq
                obtain ⟨Q', rfl⟩ : ∃ Q', Q = Q' + 1 := ⟨Q - 1, by omega⟩
                have hq' : Q' = q0 := by omega
                subst hq'
                have t3' : decide (4294967296 ≤ R + y1) = true := by simpa using t3
                clear n1 n3 hq hR r3
                by_cases t4 : 4294967296 ≤ Q' + 1
                · have t1' : decide (4294967296 ≤ Q' + 1) = true := by simpa using t4
                  go_wp2
                  go_ret2
                  exact ⟨rfl, by (repeat (first | with_reducible (exact Since.refl _) | with_reducible assumption | with_reducible (refine Since.drew ?_) | with_reducible (refine Since.drewN ?_ _) | with_reducible (refine Since.alloc ?_ _) | (with_reducible (refine Since.setCell ?_ ?_ _); rotate_left; focus (first | (simp; done) | (simp; omega) | omega)) | (with_reducible (refine Since.trans ?_ (by with_reducible assumption)))))⟩
                · have t1' : decide (4294967296 ≤ Q' + 1) = false := by simpa using t4
                  have t2' : decide (4294967296 * R + d0 < (Q' + 1) * y0) = true := by simp; omega
                  go_wp2
                  go_ret2
                  exact ⟨rfl, by (repeat (first | with_reducible (exact Since.refl _) | with_reducible assumption | with_reducible (refine Since.drew ?_) | with_reducible (refine Since.drewN ?_ _) | with_reducible (refine Since.alloc ?_ _) | (with_reducible (refine Since.setCell ?_ ?_ _); rotate_left; focus (first | (simp; done) | (simp; omega) | omega)) | (with_reducible (refine Since.trans ?_ (by with_reducible assumption)))))⟩
              · have t3' : decide (4294967296 ≤ R + y1) = false := by simpa using t3
                have hnew : Half.Rel v d0 y1 y0 (Q - 1) (R + y1) := ⟨n1, n2, n3, by omega, by omega⟩
                clear n1 n3 hR r3
                by_cases t4 : 4294967296 ≤ Q
                · have t1' : decide (4294967296 ≤ Q) = true := by simpa using t4
                  go_wp2
                  go_round
                  case rel => exact ⟨_, _, hnew, rfl, rfl⟩
                  case measure => simp [intOf]; omega
                · have t1' : decide (4294967296 ≤ Q) = false := by simpa using t4
                  have t2' : decide (4294967296 * R + d0 < Q * y0) = true := by simp; omega
                  go_wp2
                  go_round
                  case rel => exact ⟨_, _, hnew, rfl, rfl⟩
                  case measure => simp [intOf]; omega
            · have hq := hR.done F2 (by omega)
              rw [hq0.out] at hq
              subst hq
              have t1' : decide (4294967296 ≤ Q) = false := by simp; omega
              have t2' : decide (4294967296 * R + d0 < Q * y0) = false := by simp; omega
              clear hR r3
              go_wp2
              go_ret2
              exact ⟨rfl, by (repeat (first | with_reducible (exact Since.refl _) | with_reducible assumption | with_reducible (refine Since.drew ?_) | with_reducible (refine Since.drewN ?_ _) | with_reducible (refine Since.alloc ?_ _) | (with_reducible (refine Since.setCell ?_ ?_ _); rotate_left; focus (first | (simp; done) | (simp; omega) | omega)) | (with_reducible (refine Since.trans ?_ (by with_reducible assumption)))))⟩
        · have t1' : decide (4294967296 ≤ Q' + 1) = false := by simpa using t4
          have t2' : decide (4294967296 * R + d1 < (Q' + 1) * y0) = true := by simp; omega
          go_wp2
          go_loop [18, 16] (fun q r => ∃ Q R : Int, Half.Rel v d0 y1 y0 Q R ∧ q = .int .u64 Q ∧ r = .int .u64 R) (fun q _ => (intOf q).toNat)
          case atStart => exact ⟨_, _, st2, rfl, rfl⟩
          case round =>
            clear st2 v3 v4
            obtain ⟨Q, R, hR, rfl, rfl⟩ := hrel
            obtain ⟨b1, b2, b3⟩ := hR.bounds F2
            obtain ⟨r1, r2, r3, r4, r5⟩ := id hR
            have hr1 := Lib.hid r1; clear r1
            by_cases t1 : 4294967296 ≤ Q ∨ 4294967296 * R + d0 < Q * y0
            · obtain ⟨n1, n2, n3⟩ := hR.again F2 t1
              by_cases t3 : 4294967296 ≤ R + y1
              · have hq := Half.broken F2 n1 n2 n3 t3
                rw [hq0.out] at hq
                obtain ⟨Q', rfl⟩ : ∃ Q', Q = Q' + 1 := ⟨Q - 1, by omega⟩
                have hq' : Q' = q0 := by omega
                subst hq'
                have t3' : decide (4294967296 ≤ R + y1) = true := by simpa using t3
                clear n1 n3 hq hR r3
                by_cases t4 : 4294967296 ≤ Q' + 1
                · have t1' : decide (4294967296 ≤ Q' + 1) = true := by simpa using t4
                  go_wp2
                  go_ret2
                  exact ⟨rfl, by (repeat (first | with_reducible (exact Since.refl _) | with_reducible assumption | with_reducible (refine Since.drew ?_) | with_reducible (refine Since.drewN ?_ _) | with_reducible (refine Since.alloc ?_ _) | (with_reducible (refine Since.setCell ?_ ?_ _); rotate_left; focus (first | (simp; done) | (simp; omega) | omega)) | (with_reducible (refine Since.trans ?_ (by with_reducible assumption)))))⟩
                · have t1' : decide (4294967296 ≤ Q' + 1) = false := by simpa using t4
                  have t2' : decide (4294967296 * R + d0 < (Q' + 1) * y0) = true := by simp; omega
                  go_wp2
                  go_ret2
                  exact ⟨rfl, by (repeat (first | with_reducible (exact Since.refl _) | with_reducible assumption | with_reducible (refine Since.drew ?_) | with_reducible (refine Since.drewN ?_ _) | with_reducible (refine Since.alloc ?_ _) | (with_reducible (refine Since.setCell ?_ ?_ _); rotate_left; focus (first | (simp; done) | (simp; omega) | omega)) | (with_reducible (refine Since.trans ?_ (by with_reducible assumption)))))⟩
              · have t3' : decide (4294967296 ≤ R + y1) = false := by simpa using t3
                have hnew : Half.Rel v d0 y1 y0 (Q - 1) (R + y1) := ⟨n1, n2, n3, by omega, by omega⟩
                clear n1 n3 hR r3
                by_cases t4 : 4294967296 ≤ Q
                · have t1' : decide (4294967296 ≤ Q) = true := by simpa using t4
                  go_wp2
                  go_round
                  case rel => exact ⟨_, _, hnew, rfl, rfl⟩
                  case measure => simp [intOf]; omega
                · have t1' : decide (4294967296 ≤ Q) = false := by simpa using t4
                  have t2' : decide (4294967296 * R + d0 < Q * y0) = true := by simp; omega
                  go_wp2
                  go_round
                  case rel => exact ⟨_, _, hnew, rfl, rfl⟩
                  case measure => simp [intOf]; omega
            · have hq := hR.done F2 (by omega)
              rw [hq0.out] at hq
              subst hq
              have t1' : decide (4294967296 ≤ Q) = false := by simp; omega
              have t2' : decide (4294967296 * R + d0 < Q * y0) = false := by simp; omega
              clear hR r3
              go_wp2
              go_ret2
              exact ⟨rfl, by (repeat (first | with_reducible (exact Since.refl _) | with_reducible assumption | with_reducible (refine Since.drew ?_) | with_reducible (refine Since.drewN ?_ _) | with_reducible (refine Since.alloc ?_ _) | (with_reducible (refine Since.setCell ?_ ?_ _); rotate_left; focus (first | (simp; done) | (simp; omega) | omega)) | (with_reducible (refine Since.trans ?_ (by with_reducible assumption)))))⟩
      · have t3' : decide (4294967296 ≤ R + y1) = false := by simpa using t3
        have hnew : Half.Rel u d1 y1 y0 (Q - 1) (R + y1) := ⟨n1, n2, n3, by omega, by omega⟩
        clear n1 n3 hR r3 st2 v3 v4
        by_cases t4 : 4294967296 ≤ Q
        · have t1' : decide (4294967296 ≤ Q) = true := by simpa using t4
          go_wp2
          go_round
          case rel => exact ⟨_, _, hnew, rfl, rfl⟩
          case measure => simp [intOf]; omega
        · have t1' : decide (4294967296 ≤ Q) = false := by simpa using t4
          have t2' : decide (4294967296 * R + d1 < Q * y0) = true := by simp; omega
          go_wp2
          go_round
          case rel => exact ⟨_, _, hnew, rfl, rfl⟩
          case measure => simp [intOf]; omega
    · have hq := hR.done F1 (by omega)
      rw [hq1.out] at hq
      subst hq
      have t1' : decide (4294967296 ≤ Q) = false := by simp; omega
      have t2' : decide (4294967296 * R + d1 < Q * y0) = false := by simp; omega
      clear hR r3
      go_wp2
      go_loop [18, 16] (fun q r => ∃ Q R : Int, Half.Rel v d0 y1 y0 Q R ∧ q = .int .u64 Q ∧ r = .int .u64 R) (fun q _ => (intOf q).toNat)
      case atStart => exact ⟨_, _, st2, rfl, rfl⟩
      case round =>
        clear st2 v3 v4
        obtain ⟨Q, R, hR, rfl, rfl⟩ := hrel
        obtain ⟨b1, b2, b3⟩ := hR.bounds F2
        obtain ⟨r1, r2, r3, r4, r5⟩ := id hR
        have hr1 := Lib.hid r1; clear r1
        by_cases t1 : 4294967296 ≤ Q ∨ 4294967296 * R + d0 < Q * y0
        · obtain ⟨n1, n2, n3⟩ := hR.again F2 t1
          by_cases t3 : 4294967296 ≤ R + y1
          · have hq := Half.broken F2 n1 n2 n3 t3
            rw [hq0.out] at hq
            obtain ⟨Q', rfl⟩ : ∃ Q', Q = Q' + 1 := ⟨Q - 1, by omega⟩
            have hq' : Q' = q0 := by omega
            subst hq'
            have t3' : decide (4294967296 ≤ R + y1) = true := by simpa using t3
            clear n1 n3 hq hR r3
            by_cases t4 : 4294967296 ≤ Q' + 1
            · have t1' : decide (4294967296 ≤ Q' + 1) = true := by simpa using t4
              go_wp2
              go_ret2
              exact ⟨rfl, by (repeat (first | with_reducible (exact Since.refl _) | with_reducible assumption | with_reducible (refine Since.drew ?_) | with_reducible (refine Since.drewN ?_ _) | with_reducible (refine Since.alloc ?_ _) | (with_reducible (refine Since.setCell ?_ ?_ _); rotate_left; focus (first | (simp; done) | (simp; omega) | omega)) | (with_reducible (refine Since.trans ?_ (by with_reducible assumption)))))⟩
            · have t1' : decide (4294967296 ≤ Q' + 1) = false := by simpa using t4
              have t2' : decide (4294967296 * R + d0 < (Q' + 1) * y0) = true := by simp; omega
              go_wp2
              go_ret2
              exact ⟨rfl, by (repeat (first | with_reducible (exact Since.refl _) | with_reducible assumption | with_reducible (refine Since.drew ?_) | with_reducible (refine Since.drewN ?_ _) | with_reducible (refine Since.alloc ?_ _) | (with_reducible (refine Since.setCell ?_ ?_ _); rotate_left; focus (first | (simp; done) | (simp; omega) | omega)) | (with_reducible (refine Since.trans ?_ (by with_reducible assumption)))))⟩
          · have t3' : decide (4294967296 ≤ R + y1) = false := by simpa using t3
            have hnew : Half.Rel v d0 y1 y0 (Q - 1) (R + y1) := ⟨n1, n2, n3, by omega, by omega⟩
            clear n1 n3 hR r3
            by_cases t4 : 4294967296 ≤ Q
            · have t1' : decide (4294967296 ≤ Q) = true := by simpa using t4
              go_wp2
              go_round
              case rel => exact ⟨_, _, hnew, rfl, rfl⟩
              case measure => simp [intOf]; omega
            · have t1' : decide (4294967296 ≤ Q) = false := by simpa using t4
              have t2' : decide (4294967296 * R + d0 < Q * y0) = true := by simp; omega
              go_wp2
              go_round
              case rel => exact ⟨_, _, hnew, rfl, rfl⟩
              case measure => simp [intOf]; omega
        · have hq := hR.done F2 (by omega)
          rw [hq0.out] at hq
          subst hq
          have t1' : decide (4294967296 ≤ Q) = false := by simp; omega
          have t2' : decide (4294967296 * R + d0 < Q * y0) = false := by simp; omega
          clear hR r3
          go_wp2
          go_ret2
          exact ⟨rfl, by (repeat (first | with_reducible (exact Since.refl _) | with_reducible assumption | with_reducible (refine Since.drew ?_) | with_reducible (refine Since.drewN ?_ _) | with_reducible (refine Since.alloc ?_ _) | (with_reducible (refine Since.setCell ?_ ?_ _); rotate_left; focus (first | (simp; done) | (simp; omega) | omega)) | (with_reducible (refine Since.trans ?_ (by with_reducible assumption)))))⟩
end Go.Proofs.Ytckochcocflleaa

/-
  math/bits.Div64 and the program's division: two words by one, rounded down.
-/
namespace Go.Proofs.Ytckochcocflleaa
open Go.RowKit
set_option linter.unusedVariables false

theorem mask32 (x : Int) (h0 : 0 ≤ x) (h1 : x < 18446744073709551616) : bits .and .u64 x 4294967295 = x % 4294967296 := by
  obtain ⟨n, rfl⟩ := Int.eq_ofNat_of_zero_le h0
  rw [Mul64.maskN n (by omega)]
  omega
theorem or_parts (a b : Int) (s : Nat) (a0 : 0 ≤ a) (b0 : 0 ≤ b) (h : b < 2 ^ s) (h1 : a * 2 ^ s + b < 18446744073709551616) : bits .or .u64 (a * 2 ^ s) b = a * 2 ^ s + b := by
  obtain ⟨m, rfl⟩ := Int.eq_ofNat_of_zero_le a0
  obtain ⟨n, rfl⟩ := Int.eq_ofNat_of_zero_le b0
  have hc : ((m : Int) * 2 ^ s) = ((2 ^ s * m : Nat) : Int) := by push_cast; rw [Int.mul_comm]
  have hp : ((2 : Int) ^ s) = ((2 ^ s : Nat) : Int) := by push_cast; rfl
  rw [hp] at h
  rw [hc] at h1 ⊢
  have hn : n < 2 ^ s := by omega
  have := Nat.two_pow_add_eq_or_of_lt hn m
  rw [bits_or_u64_nat _ _ (by omega) (by omega), ← this]
  omega

theorem div64 (hi lo y : Int) (a0 : 0 ≤ hi) (a1 : hi < y) (l0 : 0 ≤ lo) (l1 : lo < 18446744073709551616) (yb : y < 18446744073709551616) (w : World) :
    Calls Try.prog 102 #[.int .u64 hi, .int .u64 lo, .int .u64 y] w fun e w' => e = .returned (.tuple #[.int .u64 ((hi * 18446744073709551616 + lo) / y), .int .u64 ((hi * 18446744073709551616 + lo) % y)]) ∧ Since w w' := by
  rcases Int.lt_or_eq_of_le a0 with h | h
  · obtain ⟨s0, s1, s2⟩ := lz_facts (y := y) (by omega) yb
    have hpow : (2 : Int) ^ lz y * 2 ^ (64 - lz y) = 18446744073709551616 := by rw [← Int.pow_add, show lz y + (64 - lz y) = 64 by omega]; rfl
    have hs : 0 < (2 : Int) ^ lz y := Int.pow_pos (by omega)
    have ht : 0 < (2 : Int) ^ (64 - lz y) := Int.pow_pos (by omega)
    have hm : hi * 2 ^ lz y < y * 2 ^ lz y := Int.mul_lt_mul_of_pos_right a1 hs
    have hm1 : (hi + 1) * 2 ^ lz y ≤ y * 2 ^ lz y := Int.mul_le_mul_of_nonneg_right (by omega) (by omega)
    have hm0 : 0 ≤ hi * 2 ^ lz y := Int.mul_nonneg a0 (by omega)
    have hq : lo / 2 ^ (64 - lz y) < 2 ^ lz y := Int.ediv_lt_of_lt_mul ht (by rw [hpow]; omega)
    have hq0 : 0 ≤ lo / 2 ^ (64 - lz y) := Int.ediv_nonneg l0 (by omega)
    rw [Int.add_mul, Int.one_mul] at hm1
    have hw : IntKind.u64.wrap (hi * 2 ^ lz y) = hi * 2 ^ lz y := by rw [IntKind.wrap_u64]; omega
    have hor := or_parts hi (lo / 2 ^ (64 - lz y)) (lz y) a0 hq0 hq (by omega)
    -- the word below: lo doubled, without what has gone up
    have hlow : lo * 2 ^ lz y = lo / 2 ^ (64 - lz y) * 18446744073709551616 + IntKind.u64.wrap (lo * 2 ^ lz y) := by
      have e1 : lo * 2 ^ lz y = lo / 2 ^ (64 - lz y) * 18446744073709551616 + lo % 2 ^ (64 - lz y) * 2 ^ lz y := by
        have := Int.mul_ediv_add_emod lo (2 ^ (64 - lz y))
        calc lo * 2 ^ lz y = (2 ^ (64 - lz y) * (lo / 2 ^ (64 - lz y)) + lo % 2 ^ (64 - lz y)) * 2 ^ lz y := by rw [this]
          _ = _ := by rw [Int.add_mul, ← hpow, Int.mul_comm (2 ^ (64 - lz y)) (lo / _), Int.mul_assoc, Int.mul_comm (2 ^ (64 - lz y)) (2 ^ lz y)]
      have b1 : lo % 2 ^ (64 - lz y) * 2 ^ lz y < 2 ^ (64 - lz y) * 2 ^ lz y := Int.mul_lt_mul_of_pos_right (Int.emod_lt_of_pos _ ht) hs
      have b0 : 0 ≤ lo % 2 ^ (64 - lz y) * 2 ^ lz y := Int.mul_nonneg (Int.emod_nonneg _ (by omega)) (by omega)
      rw [Int.mul_comm (2 ^ (64 - lz y)), hpow] at b1
      rw [IntKind.wrap_u64]
      generalize lo % 2 ^ (64 - lz y) * 2 ^ lz y = t at *
      generalize lo * 2 ^ lz y = x at *
      omega
    obtain ⟨w0, w1⟩ := u64_bd (lo * 2 ^ lz y)
    have F1 : Half.Fit (hi * 2 ^ lz y + lo / 2 ^ (64 - lz y)) (IntKind.u64.wrap (lo * 2 ^ lz y) / 4294967296) (y * 2 ^ lz y / 4294967296) (y * 2 ^ lz y % 4294967296) :=
      ⟨by omega, by omega, by omega, by omega, by omega, by omega, by omega, by omega⟩
    have hr := Half.rest_bd F1
    have F2 : Half.Fit (Half.rest (hi * 2 ^ lz y + lo / 2 ^ (64 - lz y)) (IntKind.u64.wrap (lo * 2 ^ lz y) / 4294967296) (y * 2 ^ lz y / 4294967296) (y * 2 ^ lz y % 4294967296)) (IntKind.u64.wrap (lo * 2 ^ lz y) % 4294967296) (y * 2 ^ lz y / 4294967296) (y * 2 ^ lz y % 4294967296) :=
      ⟨by omega, by omega, F1.a0, F1.a1, F1.b0, F1.b1, hr.1, hr.2⟩
    have hwhole := Half.whole F1 F2
    have hyy : y * 2 ^ lz y / 4294967296 * 4294967296 + y * 2 ^ lz y % 4294967296 = y * 2 ^ lz y := by omega
    have hnn : (hi * 2 ^ lz y + lo / 2 ^ (64 - lz y)) * 18446744073709551616 + IntKind.u64.wrap (lo * 2 ^ lz y) / 4294967296 * 4294967296 + IntKind.u64.wrap (lo * 2 ^ lz y) % 4294967296 = 2 ^ lz y * (hi * 18446744073709551616 + lo) := by
      have e1 : 2 ^ lz y * (hi * 18446744073709551616) = hi * 2 ^ lz y * 18446744073709551616 := by rw [← Int.mul_assoc, Int.mul_comm (2 ^ lz y) hi]
      have e2 : 2 ^ lz y * lo = lo / 2 ^ (64 - lz y) * 18446744073709551616 + IntKind.u64.wrap (lo * 2 ^ lz y) := by rw [Int.mul_comm]; exact hlow
      rw [Int.mul_add, e1, e2]
      omega
    rw [hyy, hnn, Int.mul_comm y, Int.mul_ediv_mul_of_pos _ _ hs, Int.mul_emod_mul_of_pos _ _ hs] at hwhole
    refine (div64_walk hi lo y _ _ _ _ _ _ _ _ _ _ h a1 l0 l1 yb rfl rfl (mask32 _ (by omega) s2) (by rw [hw]; exact hor) rfl (mask32 _ w0 w1) hyy F1 F2 rfl rfl rfl rfl w).mono ?_
    rintro e w' ⟨rfl, hS⟩
    refine ⟨?_, hS⟩
    rw [Int.mul_comm y, hwhole.1, hwhole.2, Int.mul_ediv_cancel_left _ (by omega)]
  · subst h
    simpa using div64_low lo y l0 l1 a1 yb w

theorem u64_of {x : Int} (h0 : 0 ≤ x) (h1 : x < 18446744073709551616) : IntKind.u64.wrap x = x := by rw [IntKind.wrap_u64]; omega
theorem w64_of {x : Int} (h0 : -9223372036854775808 ≤ x) (h1 : x < 9223372036854775808) : wrap64 x = x := by unfold wrap64; omega

theorem wide_divide (a d : Int) (ha : In128 a) (ha0 : 0 ≤ a) (hd : InW d) (hd0 : 1 ≤ d) (w : World) :
    Calls Try.prog 79 #[W a, .int .i64 d] w fun e w' => e = .returned (.tuple #[W (a / d), .int .i64 (a % d)]) ∧ Since w w' := by
  obtain ⟨h0, h1⟩ := hi_bd ha; obtain ⟨l0, l1⟩ := lo_bd a
  have hh : 0 ≤ hiW a := by unfold hiW; omega
  unfold InW at hd
  have k1 : IntKind.u64.wrap (hiW a) = hiW a := u64_of hh (by omega)
  have k2 : IntKind.u64.wrap d = d := u64_of (by omega) (by omega)
  have r0 := Int.emod_nonneg (hiW a) (show d ≠ 0 by omega); have r1 := Int.emod_lt_of_pos (hiW a) (show 0 < d by omega)
  have q0 := Int.ediv_nonneg hh (show 0 ≤ d by omega); have q1 : hiW a / d ≤ hiW a := Int.ediv_le_self _ hh
  have key : hiW a * 18446744073709551616 + loW a = a := hi_lo a
  have e1 := Int.mul_ediv_add_emod (hiW a) d
  have e2 : a = hiW a % d * 18446744073709551616 + loW a + hiW a / d * 18446744073709551616 * d := by
    rw [Int.mul_right_comm, Int.mul_comm _ d]
    generalize d * (hiW a / d) = p at *
    omega
  have f1 : a / d = (hiW a % d * 18446744073709551616 + loW a) / d + hiW a / d * 18446744073709551616 := by
    conv => lhs; rw [e2]
    rw [Int.add_mul_ediv_right _ _ (by omega)]
  have f2 : a % d = (hiW a % d * 18446744073709551616 + loW a) % d := by
    conv => lhs; rw [e2]
    rw [Int.add_mul_emod_self_right]
  have b0 : 0 ≤ (hiW a % d * 18446744073709551616 + loW a) / d := Int.ediv_nonneg (by omega) (by omega)
  have b1 : (hiW a % d * 18446744073709551616 + loW a) / d < 18446744073709551616 := by
    have hx : (hiW a % d + 1) * 18446744073709551616 ≤ d * 18446744073709551616 := Int.mul_le_mul_of_nonneg_right (by omega) (by omega)
    refine Int.ediv_lt_of_lt_mul (by omega) ?_
    rw [Int.mul_comm]; omega
  have s0 : 0 ≤ a % d := Int.emod_nonneg _ (by omega)
  have s1 : a % d < d := Int.emod_lt_of_pos _ (by omega)
  have E : Value.agg #[.int .i64 (hiW a / d), .int .u64 ((hiW a % d * 18446744073709551616 + loW a) / d)] = W (a / d) := by
    unfold W hiW loW
    rw [f1]
    have g1 : ((hiW a % d * 18446744073709551616 + loW a) / d + hiW a / d * 18446744073709551616) / 18446744073709551616 = hiW a / d := by omega
    have g2 : ((hiW a % d * 18446744073709551616 + loW a) / d + hiW a / d * 18446744073709551616) % 18446744073709551616 = (hiW a % d * 18446744073709551616 + loW a) / d := by omega
    rw [g1, g2]; rfl
  rw [f2] at s0 s1 ⊢
  rw [← E]
  clear E f1 f2 e2 e1 key
  have c := fun W' => div64 (hiW a % d) (loW a) d r0 r1 l0 l1 (by omega) W'
  have C := Lib.hid c
  clear c
  go_enter Try.func79, Try.ntmps79
  go_wp2
  go_quiet (fail)
  go_wp2_with (go_at_call 102; refine (C.out _).mono ?_; rintro e w1 ⟨rfl, hS1⟩; have hT := hS1; obtain ⟨hc1, hf1, hz1, hb1⟩ := hT)
  refine bodyPost_ret (by simp [results, Try.results79, go_sem, hc1]) rfl ⟨rfl, ?_⟩
  (repeat (first | with_reducible (exact Since.refl _) | with_reducible assumption | with_reducible (refine Since.drew ?_) | with_reducible (refine Since.drewN ?_ _) | with_reducible (refine Since.alloc ?_ _) | (with_reducible (refine Since.setCell ?_ ?_ _); rotate_left; focus (first | (simp; done) | (simp; omega) | omega)) | (with_reducible (refine Since.trans ?_ (by with_reducible assumption)))))

theorem wide_div_no (a d : Int) (hd : d < 1) (w : World) :
    Calls Try.prog 51 #[W a, .int .i64 d] w fun e w' => e = .returned (.tuple #[W 0, .int .i64 0, .int .i64 2]) ∧ Since w w' := by
  rw [← W_zero]
  have h : decide (d < 1) = true := by simpa using hd
  go_enter Try.func51, Try.ntmps51
  go_wp2
  go_outline
  refine bodyPost_ret (by simp [results, Try.results51, go_sem]) rfl ⟨rfl, ?_⟩
  (repeat (first | with_reducible (exact Since.refl _) | with_reducible assumption | with_reducible (refine Since.drew ?_) | with_reducible (refine Since.drewN ?_ _) | with_reducible (refine Since.alloc ?_ _) | (with_reducible (refine Since.setCell ?_ ?_ _); rotate_left; focus (first | (simp; done) | (simp; omega) | omega)) | (with_reducible (refine Since.trans ?_ (by with_reducible assumption)))))

set_option maxHeartbeats 600000 in
theorem wide_div_neg (a d : Int) (ha : In128 a) (hd : InW d) (hd1 : 1 ≤ d) (hn : hiW a < 0) (w : World) :
    Calls Try.prog 51 #[W a, .int .i64 d] w fun e w' => e = .returned (.tuple #[W (a / d), .int .i64 (a % d), .int .i64 0]) ∧ Since w w' := by
  obtain ⟨h0, h1⟩ := hi_bd ha
  have h : decide (d < 1) = false := by simp; omega
  unfold InW at hd
  have m0 := Int.emod_nonneg (-1 - a) (show d ≠ 0 by omega); have m1 := Int.emod_lt_of_pos (-1 - a) (show 0 < d by omega)
  have hn' : decide (hiW a < 0) = true := by simpa using hn
  have a0 : a < 0 := by unfold hiW at hn; omega
  have hci := comp_in ha
  have e := Int.mul_ediv_add_emod (-1 - a) d
  have q0 : 0 ≤ (-1 - a) / d := Int.ediv_nonneg (by omega) (by omega)
  have q1 : (-1 - a) / d ≤ -1 - a := Int.ediv_le_self _ (by omega)
  have hq : In128 ((-1 - a) / d) := by unfold In128 at *; omega
  have key : a = (d - 1 - (-1 - a) % d) + d * (-1 - (-1 - a) / d) := by
    rw [Int.mul_sub]; generalize d * ((-1 - a) / d) = p at *; omega
  have f1 : a / d = -1 - (-1 - a) / d := by
    conv => lhs; rw [key]
    rw [Int.add_mul_ediv_left _ _ (by omega), Int.ediv_eq_zero_of_lt (by omega) (by omega)]; omega
  have f2 : a % d = d - 1 - (-1 - a) % d := by
    conv => lhs; rw [key]
    rw [Int.add_mul_emod_self_left, Int.emod_eq_of_lt (by omega) (by omega)]
  rw [f1, f2]
  clear f1 f2 key e
  go_enter Try.func51, Try.ntmps51
  go_wp2_with (first
    | (go_at_call 79; refine (wide_divide (-1 - a) d hci (by omega) hd hd1 _).mono ?_; rintro e w2 ⟨rfl, hS2⟩; have hT := hS2; obtain ⟨hc2, hf2, hz2, hb2⟩ := hT; (try (have hq2_0_0 := hz2 (w.heap.size) (by first | with_reducible assumption | (simp; done) | (simp; omega) | omega); have hp2_0_0 := Nat.ne_of_lt hq2_0_0; have hl2_0_0 := Nat.le_of_lt hq2_0_0)); (try (have hq2_0_1 := hz2 (w.heap.size + 1) (by first | with_reducible assumption | (simp; done) | (simp; omega) | omega); have hp2_0_1 := Nat.ne_of_lt hq2_0_1; have hl2_0_1 := Nat.le_of_lt hq2_0_1)); (try (have hq2_0_2 := hz2 (w.heap.size + 1 + 1) (by first | with_reducible assumption | (simp; done) | (simp; omega) | omega); have hp2_0_2 := Nat.ne_of_lt hq2_0_2; have hl2_0_2 := Nat.le_of_lt hq2_0_2)); (try (have hq2_0_3 := hz2 (w.heap.size + 1 + 1 + 1) (by first | with_reducible assumption | (simp; done) | (simp; omega) | omega); have hp2_0_3 := Nat.ne_of_lt hq2_0_3; have hl2_0_3 := Nat.le_of_lt hq2_0_3)); (try (have hq2_1_0 := hz2 (w1.heap.size) (by first | with_reducible assumption | (simp; done) | (simp; omega) | omega); have hp2_1_0 := Nat.ne_of_lt hq2_1_0; have hl2_1_0 := Nat.le_of_lt hq2_1_0)); (try (have hq2_1_1 := hz2 (w1.heap.size + 1) (by first | with_reducible assumption | (simp; done) | (simp; omega) | omega); have hp2_1_1 := Nat.ne_of_lt hq2_1_1; have hl2_1_1 := Nat.le_of_lt hq2_1_1)); (try (have hq2_2_0 := hz2 (w2.heap.size) (by first | with_reducible assumption | (simp; done) | (simp; omega) | omega); have hp2_2_0 := Nat.ne_of_lt hq2_2_0; have hl2_2_0 := Nat.le_of_lt hq2_2_0)); (try (have hq2_2_1 := hz2 (w2.heap.size + 1) (by first | with_reducible assumption | (simp; done) | (simp; omega) | omega); have hp2_2_1 := Nat.ne_of_lt hq2_2_1; have hl2_2_1 := Nat.le_of_lt hq2_2_1)); (try (have hq2_3_0 := hz2 (w3.heap.size) (by first | with_reducible assumption | (simp; done) | (simp; omega) | omega); have hp2_3_0 := Nat.ne_of_lt hq2_3_0; have hl2_3_0 := Nat.le_of_lt hq2_3_0)); (try (have hq2_3_1 := hz2 (w3.heap.size + 1) (by first | with_reducible assumption | (simp; done) | (simp; omega) | omega); have hp2_3_1 := Nat.ne_of_lt hq2_3_1; have hl2_3_1 := Nat.le_of_lt hq2_3_1)); (try (have hq2_4_0 := hz2 (w4.heap.size) (by first | with_reducible assumption | (simp; done) | (simp; omega) | omega); have hp2_4_0 := Nat.ne_of_lt hq2_4_0; have hl2_4_0 := Nat.le_of_lt hq2_4_0)); (try (have hq2_4_1 := hz2 (w4.heap.size + 1) (by first | with_reducible assumption | (simp; done) | (simp; omega) | omega); have hp2_4_1 := Nat.ne_of_lt hq2_4_1; have hl2_4_1 := Nat.le_of_lt hq2_4_1)); (try (have hq2_5_0 := hz2 (w5.heap.size) (by first | with_reducible assumption | (simp; done) | (simp; omega) | omega); have hp2_5_0 := Nat.ne_of_lt hq2_5_0; have hl2_5_0 := Nat.le_of_lt hq2_5_0)); (try (have hq2_5_1 := hz2 (w5.heap.size + 1) (by first | with_reducible assumption | (simp; done) | (simp; omega) | omega); have hp2_5_1 := Nat.ne_of_lt hq2_5_1; have hl2_5_1 := Nat.le_of_lt hq2_5_1)); (try (have hq2_6_0 := hz2 (w6.heap.size) (by first | with_reducible assumption | (simp; done) | (simp; omega) | omega); have hp2_6_0 := Nat.ne_of_lt hq2_6_0; have hl2_6_0 := Nat.le_of_lt hq2_6_0)); (try (have hq2_6_1 := hz2 (w6.heap.size + 1) (by first | with_reducible assumption | (simp; done) | (simp; omega) | omega); have hp2_6_1 := Nat.ne_of_lt hq2_6_1; have hl2_6_1 := Nat.le_of_lt hq2_6_1)); (try (have hq2_7_0 := hz2 (w7.heap.size) (by first | with_reducible assumption | (simp; done) | (simp; omega) | omega); have hp2_7_0 := Nat.ne_of_lt hq2_7_0; have hl2_7_0 := Nat.le_of_lt hq2_7_0)); (try (have hq2_7_1 := hz2 (w7.heap.size + 1) (by first | with_reducible assumption | (simp; done) | (simp; omega) | omega); have hp2_7_1 := Nat.ne_of_lt hq2_7_1; have hl2_7_1 := Nat.le_of_lt hq2_7_1)); (try (have hq2_8_0 := hz2 (w8.heap.size) (by first | with_reducible assumption | (simp; done) | (simp; omega) | omega); have hp2_8_0 := Nat.ne_of_lt hq2_8_0; have hl2_8_0 := Nat.le_of_lt hq2_8_0)); (try (have hq2_8_1 := hz2 (w8.heap.size + 1) (by first | with_reducible assumption | (simp; done) | (simp; omega) | omega); have hp2_8_1 := Nat.ne_of_lt hq2_8_1; have hl2_8_1 := Nat.le_of_lt hq2_8_1)); (try (have hq2_9_0 := hz2 (w9.heap.size) (by first | with_reducible assumption | (simp; done) | (simp; omega) | omega); have hp2_9_0 := Nat.ne_of_lt hq2_9_0; have hl2_9_0 := Nat.le_of_lt hq2_9_0)); (try (have hq2_9_1 := hz2 (w9.heap.size + 1) (by first | with_reducible assumption | (simp; done) | (simp; omega) | omega); have hp2_9_1 := Nat.ne_of_lt hq2_9_1; have hl2_9_1 := Nat.le_of_lt hq2_9_1)))
    | (go_at_call 80; refine (wide_complement _ (by first | exact ha | exact hq) _).mono ?_; rintro e w1 ⟨rfl, hS1⟩; have hT := hS1; obtain ⟨hc1, hf1, hz1, hb1⟩ := hT; (try (have hq1_0_0 := hz1 (w.heap.size) (by first | with_reducible assumption | (simp; done) | (simp; omega) | omega); have hp1_0_0 := Nat.ne_of_lt hq1_0_0; have hl1_0_0 := Nat.le_of_lt hq1_0_0)); (try (have hq1_0_1 := hz1 (w.heap.size + 1) (by first | with_reducible assumption | (simp; done) | (simp; omega) | omega); have hp1_0_1 := Nat.ne_of_lt hq1_0_1; have hl1_0_1 := Nat.le_of_lt hq1_0_1)); (try (have hq1_0_2 := hz1 (w.heap.size + 1 + 1) (by first | with_reducible assumption | (simp; done) | (simp; omega) | omega); have hp1_0_2 := Nat.ne_of_lt hq1_0_2; have hl1_0_2 := Nat.le_of_lt hq1_0_2)); (try (have hq1_0_3 := hz1 (w.heap.size + 1 + 1 + 1) (by first | with_reducible assumption | (simp; done) | (simp; omega) | omega); have hp1_0_3 := Nat.ne_of_lt hq1_0_3; have hl1_0_3 := Nat.le_of_lt hq1_0_3)); (try (have hq1_1_0 := hz1 (w1.heap.size) (by first | with_reducible assumption | (simp; done) | (simp; omega) | omega); have hp1_1_0 := Nat.ne_of_lt hq1_1_0; have hl1_1_0 := Nat.le_of_lt hq1_1_0)); (try (have hq1_1_1 := hz1 (w1.heap.size + 1) (by first | with_reducible assumption | (simp; done) | (simp; omega) | omega); have hp1_1_1 := Nat.ne_of_lt hq1_1_1; have hl1_1_1 := Nat.le_of_lt hq1_1_1)); (try (have hq1_2_0 := hz1 (w2.heap.size) (by first | with_reducible assumption | (simp; done) | (simp; omega) | omega); have hp1_2_0 := Nat.ne_of_lt hq1_2_0; have hl1_2_0 := Nat.le_of_lt hq1_2_0)); (try (have hq1_2_1 := hz1 (w2.heap.size + 1) (by first | with_reducible assumption | (simp; done) | (simp; omega) | omega); have hp1_2_1 := Nat.ne_of_lt hq1_2_1; have hl1_2_1 := Nat.le_of_lt hq1_2_1)); (try (have hq1_3_0 := hz1 (w3.heap.size) (by first | with_reducible assumption | (simp; done) | (simp; omega) | omega); have hp1_3_0 := Nat.ne_of_lt hq1_3_0; have hl1_3_0 := Nat.le_of_lt hq1_3_0)); (try (have hq1_3_1 := hz1 (w3.heap.size + 1) (by first | with_reducible assumption | (simp; done) | (simp; omega) | omega); have hp1_3_1 := Nat.ne_of_lt hq1_3_1; have hl1_3_1 := Nat.le_of_lt hq1_3_1)); (try (have hq1_4_0 := hz1 (w4.heap.size) (by first | with_reducible assumption | (simp; done) | (simp; omega) | omega); have hp1_4_0 := Nat.ne_of_lt hq1_4_0; have hl1_4_0 := Nat.le_of_lt hq1_4_0)); (try (have hq1_4_1 := hz1 (w4.heap.size + 1) (by first | with_reducible assumption | (simp; done) | (simp; omega) | omega); have hp1_4_1 := Nat.ne_of_lt hq1_4_1; have hl1_4_1 := Nat.le_of_lt hq1_4_1)); (try (have hq1_5_0 := hz1 (w5.heap.size) (by first | with_reducible assumption | (simp; done) | (simp; omega) | omega); have hp1_5_0 := Nat.ne_of_lt hq1_5_0; have hl1_5_0 := Nat.le_of_lt hq1_5_0)); (try (have hq1_5_1 := hz1 (w5.heap.size + 1) (by first | with_reducible assumption | (simp; done) | (simp; omega) | omega); have hp1_5_1 := Nat.ne_of_lt hq1_5_1; have hl1_5_1 := Nat.le_of_lt hq1_5_1)); (try (have hq1_6_0 := hz1 (w6.heap.size) (by first | with_reducible assumption | (simp; done) | (simp; omega) | omega); have hp1_6_0 := Nat.ne_of_lt hq1_6_0; have hl1_6_0 := Nat.le_of_lt hq1_6_0)); (try (have hq1_6_1 := hz1 (w6.heap.size + 1) (by first | with_reducible assumption | (simp; done) | (simp; omega) | omega); have hp1_6_1 := Nat.ne_of_lt hq1_6_1; have hl1_6_1 := Nat.le_of_lt hq1_6_1)); (try (have hq1_7_0 := hz1 (w7.heap.size) (by first | with_reducible assumption | (simp; done) | (simp; omega) | omega); have hp1_7_0 := Nat.ne_of_lt hq1_7_0; have hl1_7_0 := Nat.le_of_lt hq1_7_0)); (try (have hq1_7_1 := hz1 (w7.heap.size + 1) (by first | with_reducible assumption | (simp; done) | (simp; omega) | omega); have hp1_7_1 := Nat.ne_of_lt hq1_7_1; have hl1_7_1 := Nat.le_of_lt hq1_7_1)); (try (have hq1_8_0 := hz1 (w8.heap.size) (by first | with_reducible assumption | (simp; done) | (simp; omega) | omega); have hp1_8_0 := Nat.ne_of_lt hq1_8_0; have hl1_8_0 := Nat.le_of_lt hq1_8_0)); (try (have hq1_8_1 := hz1 (w8.heap.size + 1) (by first | with_reducible assumption | (simp; done) | (simp; omega) | omega); have hp1_8_1 := Nat.ne_of_lt hq1_8_1; have hl1_8_1 := Nat.le_of_lt hq1_8_1)); (try (have hq1_9_0 := hz1 (w9.heap.size) (by first | with_reducible assumption | (simp; done) | (simp; omega) | omega); have hp1_9_0 := Nat.ne_of_lt hq1_9_0; have hl1_9_0 := Nat.le_of_lt hq1_9_0)); (try (have hq1_9_1 := hz1 (w9.heap.size + 1) (by first | with_reducible assumption | (simp; done) | (simp; omega) | omega); have hp1_9_1 := Nat.ne_of_lt hq1_9_1; have hl1_9_1 := Nat.le_of_lt hq1_9_1))))
  refine bodyPost_ret (by simp only [results, Try.results51]; go_simp) rfl ⟨rfl, ?_⟩
  (repeat (first | with_reducible (exact Since.refl _) | with_reducible assumption | with_reducible (refine Since.drew ?_) | with_reducible (refine Since.drewN ?_ _) | with_reducible (refine Since.alloc ?_ _) | (with_reducible (refine Since.setCell ?_ ?_ _); rotate_left; focus (first | (simp; done) | (simp; omega) | omega)) | (with_reducible (refine Since.trans ?_ (by with_reducible assumption)))))

set_option maxHeartbeats 600000 in
theorem wide_div_pos (a d : Int) (ha : In128 a) (hd : InW d) (hd1 : 1 ≤ d) (hn : ¬ hiW a < 0) (w : World) :
    Calls Try.prog 51 #[W a, .int .i64 d] w fun e w' => e = .returned (.tuple #[W (a / d), .int .i64 (a % d), .int .i64 0]) ∧ Since w w' := by
  obtain ⟨h0, h1⟩ := hi_bd ha
  have h : decide (d < 1) = false := by simp; omega
  unfold InW at hd
  have m0 := Int.emod_nonneg (-1 - a) (show d ≠ 0 by omega); have m1 := Int.emod_lt_of_pos (-1 - a) (show 0 < d by omega)
  have hn' : decide (hiW a < 0) = false := by simpa using hn
  have a0 : 0 ≤ a := by unfold hiW at hn; omega
  go_enter Try.func51, Try.ntmps51
  go_wp2_with (go_at_call 79; refine (wide_divide a d ha a0 hd hd1 _).mono ?_; rintro e w2 ⟨rfl, hS2⟩; have hT := hS2; obtain ⟨hc2, hf2, hz2, hb2⟩ := hT; (try (have hq2_0_0 := hz2 (w.heap.size) (by first | with_reducible assumption | (simp; done) | (simp; omega) | omega); have hp2_0_0 := Nat.ne_of_lt hq2_0_0; have hl2_0_0 := Nat.le_of_lt hq2_0_0)); (try (have hq2_0_1 := hz2 (w.heap.size + 1) (by first | with_reducible assumption | (simp; done) | (simp; omega) | omega); have hp2_0_1 := Nat.ne_of_lt hq2_0_1; have hl2_0_1 := Nat.le_of_lt hq2_0_1)); (try (have hq2_0_2 := hz2 (w.heap.size + 1 + 1) (by first | with_reducible assumption | (simp; done) | (simp; omega) | omega); have hp2_0_2 := Nat.ne_of_lt hq2_0_2; have hl2_0_2 := Nat.le_of_lt hq2_0_2)); (try (have hq2_0_3 := hz2 (w.heap.size + 1 + 1 + 1) (by first | with_reducible assumption | (simp; done) | (simp; omega) | omega); have hp2_0_3 := Nat.ne_of_lt hq2_0_3; have hl2_0_3 := Nat.le_of_lt hq2_0_3)); (try (have hq2_1_0 := hz2 (w1.heap.size) (by first | with_reducible assumption | (simp; done) | (simp; omega) | omega); have hp2_1_0 := Nat.ne_of_lt hq2_1_0; have hl2_1_0 := Nat.le_of_lt hq2_1_0)); (try (have hq2_1_1 := hz2 (w1.heap.size + 1) (by first | with_reducible assumption | (simp; done) | (simp; omega) | omega); have hp2_1_1 := Nat.ne_of_lt hq2_1_1; have hl2_1_1 := Nat.le_of_lt hq2_1_1)); (try (have hq2_2_0 := hz2 (w2.heap.size) (by first | with_reducible assumption | (simp; done) | (simp; omega) | omega); have hp2_2_0 := Nat.ne_of_lt hq2_2_0; have hl2_2_0 := Nat.le_of_lt hq2_2_0)); (try (have hq2_2_1 := hz2 (w2.heap.size + 1) (by first | with_reducible assumption | (simp; done) | (simp; omega) | omega); have hp2_2_1 := Nat.ne_of_lt hq2_2_1; have hl2_2_1 := Nat.le_of_lt hq2_2_1)); (try (have hq2_3_0 := hz2 (w3.heap.size) (by first | with_reducible assumption | (simp; done) | (simp; omega) | omega); have hp2_3_0 := Nat.ne_of_lt hq2_3_0; have hl2_3_0 := Nat.le_of_lt hq2_3_0)); (try (have hq2_3_1 := hz2 (w3.heap.size + 1) (by first | with_reducible assumption | (simp; done) | (simp; omega) | omega); have hp2_3_1 := Nat.ne_of_lt hq2_3_1; have hl2_3_1 := Nat.le_of_lt hq2_3_1)); (try (have hq2_4_0 := hz2 (w4.heap.size) (by first | with_reducible assumption | (simp; done) | (simp; omega) | omega); have hp2_4_0 := Nat.ne_of_lt hq2_4_0; have hl2_4_0 := Nat.le_of_lt hq2_4_0)); (try (have hq2_4_1 := hz2 (w4.heap.size + 1) (by first | with_reducible assumption | (simp; done) | (simp; omega) | omega); have hp2_4_1 := Nat.ne_of_lt hq2_4_1; have hl2_4_1 := Nat.le_of_lt hq2_4_1)); (try (have hq2_5_0 := hz2 (w5.heap.size) (by first | with_reducible assumption | (simp; done) | (simp; omega) | omega); have hp2_5_0 := Nat.ne_of_lt hq2_5_0; have hl2_5_0 := Nat.le_of_lt hq2_5_0)); (try (have hq2_5_1 := hz2 (w5.heap.size + 1) (by first | with_reducible assumption | (simp; done) | (simp; omega) | omega); have hp2_5_1 := Nat.ne_of_lt hq2_5_1; have hl2_5_1 := Nat.le_of_lt hq2_5_1)); (try (have hq2_6_0 := hz2 (w6.heap.size) (by first | with_reducible assumption | (simp; done) | (simp; omega) | omega); have hp2_6_0 := Nat.ne_of_lt hq2_6_0; have hl2_6_0 := Nat.le_of_lt hq2_6_0)); (try (have hq2_6_1 := hz2 (w6.heap.size + 1) (by first | with_reducible assumption | (simp; done) | (simp; omega) | omega); have hp2_6_1 := Nat.ne_of_lt hq2_6_1; have hl2_6_1 := Nat.le_of_lt hq2_6_1)); (try (have hq2_7_0 := hz2 (w7.heap.size) (by first | with_reducible assumption | (simp; done) | (simp; omega) | omega); have hp2_7_0 := Nat.ne_of_lt hq2_7_0; have hl2_7_0 := Nat.le_of_lt hq2_7_0)); (try (have hq2_7_1 := hz2 (w7.heap.size + 1) (by first | with_reducible assumption | (simp; done) | (simp; omega) | omega); have hp2_7_1 := Nat.ne_of_lt hq2_7_1; have hl2_7_1 := Nat.le_of_lt hq2_7_1)); (try (have hq2_8_0 := hz2 (w8.heap.size) (by first | with_reducible assumption | (simp; done) | (simp; omega) | omega); have hp2_8_0 := Nat.ne_of_lt hq2_8_0; have hl2_8_0 := Nat.le_of_lt hq2_8_0)); (try (have hq2_8_1 := hz2 (w8.heap.size + 1) (by first | with_reducible assumption | (simp; done) | (simp; omega) | omega); have hp2_8_1 := Nat.ne_of_lt hq2_8_1; have hl2_8_1 := Nat.le_of_lt hq2_8_1)); (try (have hq2_9_0 := hz2 (w9.heap.size) (by first | with_reducible assumption | (simp; done) | (simp; omega) | omega); have hp2_9_0 := Nat.ne_of_lt hq2_9_0; have hl2_9_0 := Nat.le_of_lt hq2_9_0)); (try (have hq2_9_1 := hz2 (w9.heap.size + 1) (by first | with_reducible assumption | (simp; done) | (simp; omega) | omega); have hp2_9_1 := Nat.ne_of_lt hq2_9_1; have hl2_9_1 := Nat.le_of_lt hq2_9_1)))
  refine bodyPost_ret (by simp only [results, Try.results51]; go_simp) rfl ⟨rfl, ?_⟩
  (repeat (first | with_reducible (exact Since.refl _) | with_reducible assumption | with_reducible (refine Since.drew ?_) | with_reducible (refine Since.drewN ?_ _) | with_reducible (refine Since.alloc ?_ _) | (with_reducible (refine Since.setCell ?_ ?_ _); rotate_left; focus (first | (simp; done) | (simp; omega) | omega)) | (with_reducible (refine Since.trans ?_ (by with_reducible assumption)))))

theorem wide_div (a d : Int) (ha : In128 a) (hd : InW d) (hd1 : 1 ≤ d) (w : World) :
    Calls Try.prog 51 #[W a, .int .i64 d] w fun e w' => e = .returned (.tuple #[W (a / d), .int .i64 (a % d), .int .i64 0]) ∧ Since w w' := by
  by_cases hn : hiW a < 0
  · exact wide_div_neg a d ha hd hd1 hn w
  · exact wide_div_pos a d ha hd hd1 hn w
end Go.Proofs.Ytckochcocflleaa

/-
  Layer 15: 'center', 'Pixel', walked.
-/
namespace Go.Proofs.Ytckochcocflleaa
open Go.RowKit
set_option linter.unusedVariables false

/-- The cells of a number of two words. -/
def Wf (n : Int) (j : Nat) : Value := if j = 0 then .int .i64 (hiW n) else .int .u64 (loW n)
def Zf (j : Nat) : Value := if j = 0 then .int .i64 0 else .int .u64 0
theorem wrow (w : World) (b : Nat) (hb : b = w.heap.size) (t : TypeId) (n : Int) : Row (w.alloc (.cells #[.int .i64 (hiW n), .int .u64 (loW n)] t)) b 2 (Wf n) := by
  subst hb
  refine Row.of_cells fun j hj => ?_
  have h : j = 0 ∨ j = 1 := by omega
  rcases h with rfl | rfl <;> rfl
theorem wput {w : World} {b : Nat} (h : Row w b 2 Zf) (n : Int) : Row ((w.setCell ⟨b, 0, none⟩ (.int .i64 (hiW n))).setCell ⟨b, 1, none⟩ (.int .u64 (loW n))) b 2 (Wf n) := by
  refine ((h.set 0 _).set 1 _).congr fun j hj => ?_
  have hh : j = 0 ∨ j = 1 := by omega
  rcases hh with rfl | rfl <;> rfl
theorem wzero (w : World) (b : Nat) (hb : b = w.heap.size) (t : TypeId) : Row (w.alloc (.cells #[.int .i64 0, .int .u64 0] t)) b 2 Zf := by
  subst hb
  refine Row.of_cells fun j hj => ?_
  have h : j = 0 ∨ j = 1 := by omega
  rcases h with rfl | rfl <;> rfl
theorem wcells {w : World} {b : Nat} {n : Int} (h : Row w b 2 (Wf n)) : w.cell? ⟨b, 0, none⟩ = some (.int .i64 (hiW n)) ∧ w.cell? ⟨b, 1, none⟩ = some (.int .u64 (loW n)) ∧ b < w.heap.size := ⟨h.1 0 (by omega), h.1 1 (by omega), h.2.2⟩

/-- A share that a point has: far from overflow. -/
def ShOK (n d : Int) : Prop := 0 < d ∧ d ≤ 1125899906842624 ∧ -(8388608 * d) ≤ n ∧ n ≤ 8388608 * d
theorem mid_in {n d : Int} (h : ShOK n d) : -131073 ≤ midI n d ∧ midI n d ≤ 131073 := by
  obtain ⟨h1, h2, h3, h4⟩ := h
  unfold midI
  constructor
  · rw [Int.le_ediv_iff_mul_le (by omega)]
    omega
  · refine Int.le_of_lt_add_one ?_
    rw [Int.ediv_lt_iff_lt_mul (by omega)]
    omega
set_option maxRecDepth 100000 in
set_option maxHeartbeats 16000000 in
theorem cr_center (n d : Int) (h : ShOK n d) (w : World) :
    Calls Try.prog 97 #[W n, .int .i64 d] w fun e w' => e = .returned (.tuple #[.int .i64 (midI n d), .bool true]) ∧ Since w w' := by
  have hm := mid_in h
  obtain ⟨h1, h2, h3, h4⟩ := h
  have hmul := fun w => wide_mul 32 d (by unfold InW; omega) (by unfold InW; omega) w
  have hadd := fun w => wide_add n (32 * d) (by unfold In128; omega) (by unfold In128; omega) w
  rw [w128_of (by unfold In128; omega)] at hadd
  have hdiv := fun w => wide_div (n + 32 * d) (64 * d) (by unfold In128; omega) (by unfold InW; omega) (by omega) w
  have hsm := fun w => wide_small (midI n d) (by unfold In128; omega) (by unfold InW; omega) w
  have hw : IntKind.i64.wrap (64 * d) = 64 * d := IntWalk.i64_in _ (by omega)
  have hN := fun w b hb t => wrow w b hb t n
  have e1 : (n + 32 * d) / (64 * d) = midI n d := rfl
  rw [e1] at hdiv
  generalize (n + 32 * d) % (64 * d) = r at *
  generalize n + 32 * d = s at *
  generalize midI n d = q at *
  have H1 := Lib.hid hmul
  have H2 := Lib.hid hadd
  have H3 := Lib.hid hdiv
  have H4 := Lib.hid hsm
  have HN := Lib.hid hN
  clear hmul hadd hdiv hsm hN e1 h1 h2 h3 h4 hm
  go_enter Try.func97, Try.ntmps97
  go_wp2
  refine wp_named fun w0 hw0 => ?_
  have rN : Row w0 w.heap.size 2 (Wf n) := by subst hw0; exact HN.out w _ rfl _
  have hS : Since w w0 := by subst hw0; (repeat (first | with_reducible (exact Since.refl _) | with_reducible assumption | with_reducible (refine Since.drew ?_) | with_reducible (refine Since.drewN ?_ _) | with_reducible (refine Since.alloc ?_ _) | (with_reducible (refine Since.setCell ?_ ?_ _); rotate_left; focus (first | (simp; done) | (simp; omega) | omega)) | (with_reducible (refine Since.trans ?_ (by with_reducible assumption)))))
  clear hw0
  obtain ⟨a1, a2, a3⟩ := wcells rN
  go_cut [6] (fun x wx => ∃ p : Nat, x = .pointer (some ⟨p, 0, none⟩) ∧ Since w0 wx ∧ Row wx p 2 (Wf s))
  case first =>
    clear rN hS HN H3 H4
    have tok8 : True := trivial
    have tok9 : True := trivial
    (refine wp_named fun wr1 hwr1 => ?_; go_region_held3 (fun w' => (∀ b o, b < wr1.heap.size → w'.cell? ⟨b, o, none⟩ = wr1.cell? ⟨b, o, none⟩) ∧ (∀ b o, b < wr1.heap.size → w'.frozen? ⟨b, o, none⟩ = wr1.frozen? ⟨b, o, none⟩) ∧ (∀ k, k < wr1.heap.size → k < w'.heap.size) ∧ Below wr1.heap.size wr1 w') ((subst hwr1; (repeat (with_reducible (refine since_put ?_ ?_ _); rotate_left; focus (first | (simp; done) | (simp; omega) | omega))); first | assumption | (refine since_step (by assumption) ?_; first | assumption | ((repeat (first | with_reducible (exact Since.refl _) | with_reducible assumption | with_reducible (refine Since.drew ?_) | with_reducible (refine Since.drewN ?_ _) | with_reducible (refine Since.alloc ?_ _) | (with_reducible (refine Since.setCell ?_ ?_ _); rotate_left; focus (first | (simp; done) | (simp; omega) | omega)))); done)) | (refine since_step (Since.refl _) ?_; first | assumption | ((repeat (first | with_reducible (exact Since.refl _) | with_reducible assumption | with_reducible (refine Since.drew ?_) | with_reducible (refine Since.drewN ?_ _) | with_reducible (refine Since.alloc ?_ _) | (with_reducible (refine Since.setCell ?_ ?_ _); rotate_left; focus (first | (simp; done) | (simp; omega) | omega)) | (with_reducible (refine Since.trans ?_ (by with_reducible assumption))))); done)))) (first | (go_at_call 18; have _t := tok8; refine (H1.out _).mono ?_; rintro e w8 ⟨rfl, hS8⟩; have hZ := hS8.below.size; (try simp at hZ); have hT := hS8; obtain ⟨hc8, hf8, hz8, hb8⟩ := hT; (try (have hq8_w0_0 := hz8 (w0.heap.size) (by first | with_reducible assumption | (simp; done) | (simp; omega)); have hp8_w0_0 := Nat.ne_of_lt hq8_w0_0; have hl8_w0_0 := Nat.le_of_lt hq8_w0_0)); (try (have hq8_w0_1 := hz8 (w0.heap.size + 1) (by first | with_reducible assumption | (simp; done) | (simp; omega)); have hp8_w0_1 := Nat.ne_of_lt hq8_w0_1; have hl8_w0_1 := Nat.le_of_lt hq8_w0_1)); clear tok8) | (go_at_call 15; have _t := tok9; refine (H2.out _).mono ?_; rintro e w9 ⟨rfl, hS9⟩; have hZ := hS9.below.size; (try simp at hZ); have hT := hS9; obtain ⟨hc9, hf9, hz9, hb9⟩ := hT; (try (have hq9_w0_0 := hz9 (w0.heap.size) (by first | with_reducible assumption | (simp; done) | (simp; omega)); have hp9_w0_0 := Nat.ne_of_lt hq9_w0_0; have hl9_w0_0 := Nat.le_of_lt hq9_w0_0)); (try (have hq9_w0_1 := hz9 (w0.heap.size + 1) (by first | with_reducible assumption | (simp; done) | (simp; omega)); have hp9_w0_1 := Nat.ne_of_lt hq9_w0_1; have hl9_w0_1 := Nat.le_of_lt hq9_w0_1)); (try (have hq9_w8_0 := hz9 (w8.heap.size) (by first | with_reducible assumption | (simp; done) | (simp; omega)); have hp9_w8_0 := Nat.ne_of_lt hq9_w8_0; have hl9_w8_0 := Nat.le_of_lt hq9_w8_0)); (try (have hq9_w8_1 := hz9 (w8.heap.size + 1) (by first | with_reducible assumption | (simp; done) | (simp; omega)); have hp9_w8_1 := Nat.ne_of_lt hq9_w8_1; have hl9_w8_1 := Nat.le_of_lt hq9_w8_1)); clear tok9)); all_goals (rename_i hHeld; have hR1 : Since wr1 _ := hHeld; obtain ⟨hcR1, hfR1, hzR1, hbR1⟩ := hHeld; subst hwr1))
    all_goals (go_wp2_with fail)
    all_goals go_meet
    all_goals ((try clear hp8_w0_0); (try clear hl8_w0_0); (try clear hp8_w0_1); (try clear hl8_w0_1); (try clear hp9_w0_0); (try clear hl9_w0_0); (try clear hp9_w0_1); (try clear hl9_w0_1); (try clear hp9_w8_0); (try clear hl9_w8_0); (try clear hp9_w8_1); (try clear hl9_w8_1))
    all_goals refine ⟨_, rfl, ?_, ?_⟩
    any_goals ((show Since _ _); (repeat (first | with_reducible (exact Since.refl _) | with_reducible assumption | with_reducible (refine Since.drew ?_) | with_reducible (refine Since.drewN ?_ _) | with_reducible (refine Since.alloc ?_ _) | (with_reducible (refine Since.setCell ?_ ?_ _); rotate_left; focus (first | (simp; done) | (simp; omega) | omega)) | (with_reducible (refine Since.trans ?_ (by with_reducible assumption))))); done)
    all_goals ((repeat (first | with_reducible assumption | (with_reducible (refine wrow _ _ ?_ _ _); first | with_reducible rfl | (simp; done)) | (with_reducible (refine wzero _ _ ?_ _); first | with_reducible rfl | (simp; done)) | with_reducible (refine wput ?_ _) | (with_reducible (refine prow _ _ ?_ _ _ _); first | with_reducible rfl | (simp; done)) | (with_reducible (refine orow _ _ ?_ _ _); first | with_reducible rfl | (simp; done)) | with_reducible (refine pput0 ?_ _ _) | with_reducible (refine oput0 ?_ _) | with_reducible (refine Row.drewN ?_ _) | with_reducible (refine Row.drew ?_) | with_reducible (refine Row.alloc ?_ _) | (with_reducible (refine Row.far ?_ ?_ _ _); rotate_left; focus (first | (simp; done) | (simp; omega) | omega)) | with_reducible (refine Row.since ?_ hS9) | with_reducible (refine Row.since ?_ hS8) | with_reducible (refine Row.since ?_ hS7) )))
  obtain ⟨p, rfl, hS1, rP⟩ := hcut
  have hS := hS.trans hS1
  clear hS1 rN a1 a2 a3
  obtain ⟨p1, p2, p3⟩ := wcells rP
  go_wp2_with (first | (go_at_call 51; (with_reducible refine (H3.out _).mono ?_); rintro e w3 ⟨rfl, hS3⟩) | (go_at_call 54; (with_reducible refine (H4.out _).mono ?_); rintro e w4 ⟨rfl, hS4⟩))
  go_ret2
  exact ⟨rfl, by (repeat (first | with_reducible (exact Since.refl _) | with_reducible assumption | with_reducible (refine Since.drew ?_) | with_reducible (refine Since.drewN ?_ _) | with_reducible (refine Since.alloc ?_ _) | (with_reducible (refine Since.setCell ?_ ?_ _); rotate_left; focus (first | (simp; done) | (simp; omega) | omega)) | (with_reducible (refine Since.trans ?_ (by with_reducible assumption)))))⟩
theorem cv_range {w : World} {b : Nat} {p : Cp} (h : Row w b 6 (Cf p)) : w.cell? ⟨b, 0, none⟩ = some (.int .i64 p.k) := h.1 0 (by omega)
def pixX (p : Cp) : Int := if p.k = 1 then midI p.x p.d else 0
def pixY (p : Cp) : Int := if p.k = 1 then midI p.y p.d else 0
set_option maxRecDepth 100000 in
set_option maxHeartbeats 16000000 in
theorem cr_pixel (p : Cp) (h : p.k = 1 → ShOK p.x p.d ∧ ShOK p.y p.d) (w : World) :
    Calls Try.prog 67 #[p.v] w fun e w' => e = .returned (.tuple #[Pt (pixX p) (pixY p), .bool (p.k == 1)]) ∧ Since w w' := by
  have hN := fun w b hb t => crow w b hb t p
  have hc := fun (hk : p.k = 1) => And.intro (fun w => cr_center p.x p.d (h hk).1 w) (fun w => cr_center p.y p.d (h hk).2 w)
  unfold pixX pixY
  obtain ⟨k, x, y, d⟩ := p
  simp only at hc hN h ⊢
  have HN := Lib.hid hN
  unfold Cp.v Pt
  simp only
  clear hN h
  by_cases hk : k = 1
  · subst hk
    have H1 := Lib.hid (hc rfl).1
    have H2 := Lib.hid (hc rfl).2
    clear hc
    simp only [if_true]
    generalize midI x d = X at *
    generalize midI y d = Y at *
    go_enter Try.func67, Try.ntmps67
    go_wp2_with (first | (go_at_call 97; (with_reducible refine (H1.out _).mono ?_); rintro e w3 ⟨rfl, hS3⟩; have hN := ((HN.out w _ rfl _).alloc (.cells #[.int .i64 0, .int .i64 0] 34)).since hS3; have hR := (prow _ (w.heap.size + 1) (by simp) _ 0 0).since hS3; have hT : Since w w3 := (by (repeat (first | with_reducible (exact Since.refl _) | with_reducible assumption | with_reducible (refine Since.drew ?_) | with_reducible (refine Since.drewN ?_ _) | with_reducible (refine Since.alloc ?_ _) | (with_reducible (refine Since.setCell ?_ ?_ _); rotate_left; focus (first | (simp; done) | (simp; omega) | omega)) | (with_reducible (refine Since.trans ?_ (by with_reducible assumption)))))); clear hS3; obtain ⟨c1, c2, c3, c4, c5, c6, c7⟩ := ccells hN; obtain ⟨p1, p2, p3⟩ := pcells hR; have f0 := hR.2.1 0; have f1 := hR.2.1 1) | (go_at_call 97; (with_reducible refine (H2.out _).mono ?_); rintro e w4 ⟨rfl, hS4⟩; have hR := hR.since hS4; have hT := hT.trans hS4; clear hS4 c1 c2 c3 c4 c5 c6 c7 p1 p2 p3 f0 f1; obtain ⟨p1, p2, p3⟩ := pcells hR; have f0 := hR.2.1 0; have f1 := hR.2.1 1))
    refine bodyPost_ret (by simp only [results, Try.results67]; go_simp) rfl ⟨rfl, ?_⟩
    (repeat (first | with_reducible (exact Since.refl _) | with_reducible assumption | with_reducible (refine Since.drew ?_) | with_reducible (refine Since.drewN ?_ _) | with_reducible (refine Since.alloc ?_ _) | (with_reducible (refine Since.setCell ?_ ?_ _); rotate_left; focus (first | (simp; done) | (simp; omega) | omega)) | (with_reducible (refine Since.trans ?_ (by with_reducible assumption)))))
  · have hd : (k == 1) = false := by simp [hk]
    have hd2 : (k != 1) = true := by simp [hk]
    simp only [if_neg hk, hd]
    clear hk hc
    go_enter Try.func67, Try.ntmps67
    go_wp2
    refine bodyPost_ret (by simp only [results, Try.results67]; go_simp) rfl ⟨rfl, ?_⟩
    (repeat (first | with_reducible (exact Since.refl _) | with_reducible assumption | with_reducible (refine Since.drew ?_) | with_reducible (refine Since.drewN ?_ _) | with_reducible (refine Since.alloc ?_ _) | (with_reducible (refine Since.setCell ?_ ?_ _); rotate_left; focus (first | (simp; done) | (simp; omega) | omega)) | (with_reducible (refine Since.trans ?_ (by with_reducible assumption)))))
end Go.Proofs.Ytckochcocflleaa

/-
  Layer 16: what 'Hot' does with a pair (Hot$1), walked.
-/
namespace Go.Proofs.Ytckochcocflleaa
open Go.RowKit Go.Maps
open Go.Sort
set_option linter.unusedVariables false

/-- The pixel in which two lines meet, if they do in one. -/
def metP (s t : Ln) : List (Int × Int) := if (meetCp s t).k = 1 then [(pixX (meetCp s t), pixY (meetCp s t))] else []
theorem KC.grown {a b c : World} (h : KC a b) {g : Nat} (hg : b.grownBy c (some g)) (hm : ∀ cs t z, b.heap[g]? ≠ some (Obj.cells cs t z)) : KC a c :=
  h.trans ⟨hg.size, fun x cs t z hx => by
    have hlt : x < b.heap.size := by
      rcases Nat.lt_or_ge x b.heap.size with k | k
      · exact k
      · rw [Array.getElem?_eq_none k] at hx; cases hx
    rw [hg.block x hlt (fun e => by injection e with e; subst e; exact hm cs t z hx)]; exact hx⟩
set_option maxRecDepth 100000 in
set_option maxHeartbeats 16000000 in
theorem px_hot1 (s t : Ln) (hs : s.wf) (ht : t.wf) (hsh : (meetCp s t).k = 1 → ShOK (meetCp s t).x (meetCp s t).d ∧ ShOK (meetCp s t).y (meetCp s t).d) (bv bm n : Nat) (M : List (Int × Int)) (w : World)
    (hv : w.cell? ⟨bv, 0, none⟩ = some (.map (some bm))) (hvl : bv < w.heap.size) (hM : MapOf w bm n M) (hn : n < 100000000) :
    Calls Try.prog 65 #[s.v, t.v, .pointer (some ⟨bv, 0, none⟩)] w fun e w' => (∃ v, e = .returned v) ∧ ∃ n', n' ≤ n + 1 ∧ MapOf w' bm n' (M ++ metP s t) ∧ (∃ wy, Since w wy ∧ (w' = wy ∨ wy.grownBy w' (some bm))) := by
  have hme := fun w => cr_meet s t hs ht w
  have hpx := fun w => cr_pixel (meetCp s t) hsh w
  unfold metP
  generalize meetCp s t = p at *
  generalize meetE s t = E at *
  have hN := fun w b hb t' => ln_new w b hb s t'
  have hN2 := fun w b hb t' => ln_new w b hb t t'
  have hCr := fun w b hb t' => crow w b hb t' p
  have hX1 : -131073 ≤ pixX p ∧ pixX p ≤ 131073 := by
    unfold pixX; split
    · rename_i h; exact mid_in (hsh h).1
    · omega
  have hY1 : -131073 ≤ pixY p ∧ pixY p ≤ 131073 := by
    unfold pixY; split
    · rename_i h; exact mid_in (hsh h).2
    · omega
  generalize hX : pixX p = X at *
  generalize hY : pixY p = Y at *
  have hk : keyOf Try.prog 34 (.agg #[.int .i64 X, .int .i64 Y]) = some (kP X Y) := keyOf_pt (wf_of64 (by unfold In64; omega)) (wf_of64 (by unfold In64; omega))
  unfold Ln.v Cp.v Pt at *
  have HME := Lib.hid hme; have HPX := Lib.hid hpx; have HN := Lib.hid hN; have HN2 := Lib.hid hN2; have HCR := Lib.hid hCr; have HK := Lib.hid hk
  clear hme hpx hN hN2 hCr hk hX hY hsh hX1 hY1
  have hbl : bv < w.heap.size := hvl
  obtain ⟨Z, hZ⟩ : ∃ Z, Z = (if p.k = 1 then [(X, Y)] else []) := ⟨_, rfl⟩
  rw [← hZ]
  have HZ := Lib.hid hZ
  clear hZ
  go_enter Try.func65, Try.ntmps65
  go_upto_region 3 with (first | (go_at_call 66; (with_reducible refine (HME.out _).mono ?_); rintro e w1 ⟨rfl, hS1⟩; have hT1 : Since w w1 := (by (repeat (first | with_reducible (exact Since.refl _) | with_reducible assumption | with_reducible (refine Since.drew ?_) | with_reducible (refine Since.drewN ?_ _) | with_reducible (refine Since.alloc ?_ _) | (with_reducible (refine Since.setCell ?_ ?_ _); rotate_left; focus (first | (simp; done) | (simp; omega) | omega)) | (with_reducible (refine Since.trans ?_ (by with_reducible assumption)))))); have rC := HCR.out w1 w1.heap.size rfl) | (go_at_call 67; (with_reducible refine (HPX.out _).mono ?_); rintro e w2 ⟨rfl, hS2⟩; have hT2 : Since w w2 := (by (repeat (first | with_reducible (exact Since.refl _) | with_reducible assumption | with_reducible (refine Since.drew ?_) | with_reducible (refine Since.drewN ?_ _) | with_reducible (refine Since.alloc ?_ _) | (with_reducible (refine Since.setCell ?_ ?_ _); rotate_left; focus (first | (simp; done) | (simp; omega) | omega)) | (with_reducible (refine Since.trans ?_ (by with_reducible assumption))))))))
  refine wp_named fun wa hwa => ?_
  have hTa : Since w wa := by subst hwa; exact hT2.alloc _
  have hPa : PtAt wa w2.heap.size X Y := by subst hwa; exact pt_new w2 _ rfl X Y _
  have hva : wa.cell? ⟨bv, 0, none⟩ = some (.map (some bm)) := (hTa.1 _ _ hvl).trans hv
  have hla : bv < wa.heap.size := hTa.2.2.1 _ hvl
  have hMa := hM.since hTa
  clear hwa rC hT1 hS1 hS2 hT2 hM hv hvl hbl HME HPX HN HN2 HCR hs ht
  obtain ⟨a1, a2, a3⟩ := id hPa
  by_cases hk1 : p.k = 1
  · have d1 : (p.k == 1) = true := by simp [hk1]
    have hz : Z = [(X, Y)] := by rw [HZ.out, if_pos hk1]
    subst hz
    clear hk1 HZ
    go_wp2_with (at_mapUpdate; refine wpList_mapUpdate_own _ rfl _ _ _ 100 rfl 34 101 lawPt Try.underlying100 (unitElem (H := Unit)) bm n _ rfl hMa (by unfold maxLen; omega) _ _ _ rfl rfl (HK.out) _ [] unitElem_mk ?_; intro v1 hown hgr)
    go_end0
    exact ⟨⟨_, rfl⟩, n + 1, Nat.le_refl _, by show World.ownsMap _ _ _ _ _ _ (setOf (.agg []) (kL (M ++ [(X, Y)]))); rw [kL_snoc]; exact hown, wa, hTa, .inr hgr⟩
  · have d1 : (p.k == 1) = false := by simp [hk1]
    have hz : Z = [] := by rw [HZ.out, if_neg hk1]
    subst hz
    clear hk1 HZ
    go_wp2_with fail
    go_end0
    exact ⟨⟨_, rfl⟩, n, Nat.le_succ _, by rw [List.append_nil]; exact hMa, wa, hTa, .inl rfl⟩
end Go.Proofs.Ytckochcocflleaa

/-
  Layer 16: which pixels are hot, in lists: no walk.
-/
namespace Go.Proofs.Ytckochcocflleaa
open Go.RowKit Go.Maps
open Go.Sort
set_option linter.unusedVariables false

theorem prAt_mem {s : Ln} : ∀ {R : List Ln} {p : Ln × Ln}, p ∈ prAt s R → p.1 = s ∧ p.2 ∈ R
  | [], p, h => by cases h
  | t :: r, p, h => by
    unfold prAt at h
    split at h
    · split at h
      · rcases List.mem_cons.1 h with rfl | h
        · exact ⟨rfl, by simp⟩
        · have := prAt_mem h; exact ⟨this.1, List.mem_cons_of_mem _ this.2⟩
      · have := prAt_mem h; exact ⟨this.1, List.mem_cons_of_mem _ this.2⟩
    · cases h
theorem prs_mem : ∀ {L : List Ln} {p : Ln × Ln}, p ∈ prsOf L → p.1 ∈ L ∧ p.2 ∈ L
  | [], p, h => by cases h
  | s :: r, p, h => by
    unfold prsOf at h
    rcases List.mem_append.1 h with h | h
    · have := prAt_mem h
      exact ⟨by rw [this.1]; simp, List.mem_cons_of_mem _ this.2⟩
    · have := prs_mem h
      exact ⟨List.mem_cons_of_mem _ this.1, List.mem_cons_of_mem _ this.2⟩
theorem prAt_has {s t : Ln} : ∀ {R : List Ln}, SortedL (Go.Proofs.ltOf cmpL) R → t ∈ R → prL s t = true → prY s t = true → (s, t) ∈ prAt s R
  | [], _, ht, _, _ => by cases ht
  | u :: r, hs, ht, hl, hy => by
    have h2 := List.pairwise_cons.1 hs
    have hu : prL s u = true := by
      rcases List.mem_cons.1 ht with rfl | ht
      · exact hl
      · have := h2.1 t ht
        rw [cmpL_lt] at this
        unfold prL at hl ⊢
        simp at this hl ⊢
        omega
    unfold prAt
    rw [if_pos hu]
    rcases List.mem_cons.1 ht with rfl | ht
    · rw [if_pos hy]; simp
    · have := prAt_has h2.2 ht hl hy
      split
      · exact List.mem_cons_of_mem _ this
      · exact this
theorem apart_pr {u v : Ln} (h : aprtL u v = false) : prL u v = true ∧ prY u v = true := by
  unfold aprtL aprt at h
  unfold prL prY
  simp only [Bool.or_eq_false_iff, decide_eq_false_iff_not] at h
  simp only [Bool.and_eq_true, decide_eq_true_eq]
  omega
theorem prs_has {u v : Ln} (ha : aprtL u v = false) : ∀ {L : List Ln}, SortedL (Go.Proofs.ltOf cmpL) L → u ∈ L → v ∈ L → u = v ∨ (u, v) ∈ prsOf L ∨ (v, u) ∈ prsOf L
  | [], _, hu, _ => by cases hu
  | a :: r, hs, hu, hv => by
    have h2 := List.pairwise_cons.1 hs
    have hb : aprtL v u = false := by rw [aprtL_swap]; exact ha
    unfold prsOf
    rcases List.mem_cons.1 hu with hu1 | hu1 <;> rcases List.mem_cons.1 hv with hv1 | hv1
    · exact .inl (hu1.trans hv1.symm)
    · subst hu1
      exact .inr (.inl (List.mem_append_left _ (prAt_has h2.2 hv1 (apart_pr ha).1 (apart_pr ha).2)))
    · subst hv1
      exact .inr (.inr (List.mem_append_left _ (prAt_has h2.2 hu1 (apart_pr hb).1 (apart_pr hb).2)))
    · rcases prs_has ha h2.2 hu1 hv1 with h | h | h
      · exact .inl h
      · exact .inr (.inl (List.mem_append_right _ h))
      · exact .inr (.inr (List.mem_append_right _ h))

def pxA (l : Ln) : Int × Int := (pxI l.ax, pxI l.ay)
def pxB (l : Ln) : Int × Int := (pxI l.bx, pxI l.bz)
def endsP (L : List Ln) : List (Int × Int) := L.flatMap fun l => [pxA l, pxB l]
def metsP (Q : List (Ln × Ln)) : List (Int × Int) := Q.flatMap fun p => metP p.1 p.2
/-- Is a pixel hot? -/
def IsHot (L : List Ln) (e : Int × Int) : Prop := (∃ l ∈ L, e = pxA l ∨ e = pxB l) ∨ ∃ s ∈ L, ∃ t ∈ L, (meetCp s t).k = 1 ∧ e = (pixX (meetCp s t), pixY (meetCp s t))
theorem mem_endsP {L : List Ln} {e : Int × Int} : e ∈ endsP L ↔ ∃ l ∈ L, e = pxA l ∨ e = pxB l := by
  unfold endsP
  rw [List.mem_flatMap]
  constructor <;> rintro ⟨l, h1, h2⟩ <;> exact ⟨l, h1, by simpa using h2⟩
theorem mem_metsP {Q : List (Ln × Ln)} {e : Int × Int} : e ∈ metsP Q ↔ ∃ p ∈ Q, (meetCp p.1 p.2).k = 1 ∧ e = (pixX (meetCp p.1 p.2), pixY (meetCp p.1 p.2)) := by
  unfold metsP
  rw [List.mem_flatMap]
  constructor <;> rintro ⟨l, h1, h2⟩ <;> refine ⟨l, h1, ?_⟩
  · unfold metP at h2
    split at h2
    · exact ⟨‹_›, by simpa using h2⟩
    · cases h2
  · unfold metP
    rw [if_pos h2.1, h2.2]
    simp
theorem mid_one (n : Int) : midI n 1 = pxI n := by unfold midI pxI; rw [Int.mul_one, Int.mul_one]
theorem meet_k_apart {s t : Ln} (h : (meetCp s t).k = 1) : aprtL s t = false ∧ meetCp s t = meetG s t := by
  unfold meetCp at *
  split at h
  · rename_i hg
    refine ⟨?_, if_pos hg⟩
    unfold meetG at h
    cases ha : aprtL s t
    · rfl
    · rw [ha, if_pos rfl] at h; cases h
  · cases h
theorem meet_self {s : Ln} (h : (meetCp s s).k = 1) : (pixX (meetCp s s), pixY (meetCp s s)) = pxA s ∨ (pixX (meetCp s s), pixY (meetCp s s)) = pxB s := by
  obtain ⟨ha, he⟩ := meet_k_apart h
  rw [he] at h ⊢
  have h0 : cC s s = 0 := by unfold cC crossI; grind
  unfold meetG at h ⊢
  rw [ha, if_neg (by simp), if_pos h0] at h ⊢
  rcases touch_cases (ends s s) with ⟨_, e⟩ | ⟨x, hx, e⟩ | e
  · rw [e] at h; cases h
  · rw [e]
    unfold pixX pixY
    simp only [if_true, mid_one]
    rcases mem_ends.1 hx with ⟨rfl, _⟩ | ⟨rfl, _⟩ | ⟨rfl, _⟩ | ⟨rfl, _⟩
    · exact .inl rfl
    · exact .inr rfl
    · exact .inl rfl
    · exact .inr rfl
  · rw [e] at h; cases h
theorem hot_iff {L L' : List Ln} (hp : List.Perm L' L) (hs : SortedL (Go.Proofs.ltOf cmpL) L') (e : Int × Int) : e ∈ endsP L ++ metsP (prsOf L') ↔ IsHot L e := by
  rw [List.mem_append, mem_endsP, mem_metsP]
  constructor
  · rintro (h | ⟨p, h1, h2, h3⟩)
    · exact .inl h
    · have := prs_mem h1
      exact .inr ⟨p.1, hp.mem_iff.1 this.1, p.2, hp.mem_iff.1 this.2, h2, h3⟩
  · rintro (h | ⟨s, h1, t, h2, h3, h4⟩)
    · exact .inl h
    · rcases prs_has (meet_k_apart h3).1 hs (hp.mem_iff.2 h1) (hp.mem_iff.2 h2) with h | h | h
      · subst h
        refine .inl ⟨s, h1, ?_⟩
        rw [h4]
        exact meet_self h3
      · exact .inr ⟨_, h, h3, h4⟩
      · refine .inr ⟨_, h, ?_, ?_⟩
        · show (meetCp t s).k = 1
          rw [meetCp_swap]; exact h3
        · show e = (pixX (meetCp t s), pixY (meetCp t s))
          rw [meetCp_swap]; exact h4
def LtP (p q : Pq) : Prop := p.x < q.x ∨ (p.x = q.x ∧ p.y < q.y)
theorem ltP_irr {p : Pq} (h : LtP p p) : False := by unfold LtP at h; omega
theorem ltP_tr {p q r : Pq} (h : LtP p q) (k : LtP q r) : LtP p r := by unfold LtP at *; omega
theorem ltP_tri (p q : Pq) : LtP p q ∨ p = q ∨ LtP q p := by
  unfold LtP
  obtain ⟨a, b⟩ := p
  obtain ⟨c, d⟩ := q
  simp only [Pq.mk.injEq]
  omega
theorem strict_same : ∀ {L M : List Pq}, L.Pairwise LtP → M.Pairwise LtP → (∀ x, x ∈ L ↔ x ∈ M) → L = M
  | [], [], _, _, _ => rfl
  | [], m :: M, _, _, h => by have := (h m).2 (by simp); cases this
  | l :: L, [], _, _, h => by have := (h l).1 (by simp); cases this
  | l :: L, m :: M, hl, hm, h => by
    have l2 := List.pairwise_cons.1 hl
    have m2 := List.pairwise_cons.1 hm
    have e : l = m := by
      rcases List.mem_cons.1 ((h l).1 (by simp)) with e | e
      · exact e
      · rcases List.mem_cons.1 ((h m).2 (by simp)) with e' | e'
        · exact e'.symm
        · exact (ltP_irr (ltP_tr (m2.1 l e) (l2.1 m e'))).elim
    subst e
    rw [strict_same l2.2 m2.2 fun x => ?_]
    constructor
    · intro hx
      rcases List.mem_cons.1 ((h x).1 (List.mem_cons_of_mem _ hx)) with e | e
      · subst e; exact (ltP_irr (l2.1 x hx)).elim
      · exact e
    · intro hx
      rcases List.mem_cons.1 ((h x).2 (List.mem_cons_of_mem _ hx)) with e | e
      · subst e; exact (ltP_irr (m2.1 x hx)).elim
      · exact e
/-- Sorted, and no two alike: strictly. -/
theorem strict_of {L : List Pq} (h : SortedL (Go.Proofs.ltOf cmpP) L) (hn : L.Nodup) : L.Pairwise LtP := by
  have h2 := List.pairwise_and_iff.2 ⟨h, hn⟩
  refine h2.imp ?_
  rintro a b ⟨h1, h3⟩
  rw [cmpP_lt] at h1
  simp only [decide_eq_false_iff_not] at h1
  rcases ltP_tri a b with k | k | k
  · exact k
  · exact absurd k h3
  · exact absurd k h1
/-- The hot pixels of lines. -/
def HotL (L : List Ln) (H : List Pq) : Prop := H.Pairwise LtP ∧ ∀ p : Pq, p ∈ H ↔ IsHot L (p.x, p.y)
theorem hotL_same {L : List Ln} {H H' : List Pq} (h : HotL L H) (k : HotL L H') : H = H' := strict_same h.1 k.1 fun x => (h.2 x).trans (k.2 x).symm
end Go.Proofs.Ytckochcocflleaa
