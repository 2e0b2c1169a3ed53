/-
  Layer 3: the sums, walked.
-/
import Derived.Test.YtpplnapfpoloiaaMgB
import Derived.Deep.LoopGhost
namespace Go.Proofs.Ytpplnapfpoloiaa
open Go.RowKit
set_option linter.unusedVariables false

/-- How much a byte counts by its place in its word. -/
def wgt (j : Nat) : Int := 2 ^ (8 * (3 - j % 4))
/-- A sum gone on with, by the first j bytes. -/
def accu (s : Int) (f : Nat → Int) : Nat → Int
  | 0 => s
  | j + 1 => (accu s f j + f j * wgt j) % 4294967296

theorem accu_range {s : Int} {f : Nat → Int} (hs : 0 ≤ s ∧ s < 4294967296) : ∀ j, 0 ≤ accu s f j ∧ accu s f j < 4294967296
  | 0 => hs
  | j + 1 => by simp only [accu]; omega
theorem wgt_0 (q : Nat) : wgt (4 * q + 0) = 16777216 := by unfold wgt; rw [show (4 * q + 0) % 4 = 0 by omega]; rfl
theorem wgt_1 (q : Nat) : wgt (4 * q + 1) = 65536 := by unfold wgt; rw [show (4 * q + 1) % 4 = 1 by omega]; rfl
theorem wgt_2 (q : Nat) : wgt (4 * q + 2) = 256 := by unfold wgt; rw [show (4 * q + 2) % 4 = 2 by omega]; rfl
theorem wgt_3 (q : Nat) : wgt (4 * q + 3) = 1 := by unfold wgt; rw [show (4 * q + 3) % 4 = 3 by omega]; rfl

set_option maxHeartbeats 4000000 in
theorem ts_more (s : Int) (A : Option Addr) (n c : Nat) (f : Nat → Int) (w : World) (h : Rd w w.heap.size A n (U8 f)) (hf : ∀ j, j < n → 0 ≤ f j ∧ f j ≤ 255) (hs : 0 ≤ s ∧ s < 4294967296) (hn : n ≤ 140737488355328) :
    Calls Try.prog 94 #[.int .u32 s, .slice A n c] w fun e w' => e = .returned (.int .u32 (accu s f n)) ∧ w' = w := by
  go_enter Try.func94, Try.ntmps94
  go_wp2
  go_step3
  go_wp2
  go_step3
  go_wp2
  go_loopg [0, 5] (n / 4 + 1) (fun g x y wr => ∃ q : Nat, q + g = n / 4 + 1 ∧ 4 * q ≤ n ∧ x = .int .u32 (accu s f (4 * q)) ∧ y = .int .i64 (4 * (q : Int)) ∧ wr = w)
  case atStart => exact ⟨0, by omega, by omega, rfl, rfl, rfl⟩
  case round =>
    obtain ⟨q, hq, hqn, rfl, rfl, rfl⟩ := hrel
    obtain ⟨g, rfl⟩ : ∃ g : Nat, g = gk := ⟨_, rfl⟩
    obtain ⟨wo, rfl⟩ : ∃ wo : World, wo = wr := ⟨_, rfl⟩
    go_wp2
    go_loopg [0, 6, 9] 4 (fun g2 x _ y wy => ∃ (i : Nat) (ii : Int), ii = i ∧ i + g2 = 4 ∧ x = .int .u32 (accu s f (4 * q + i)) ∧ 4 * q + i ≤ n ∧ y = .int .i64 ii ∧ wy = wo)
    case atStart => exact ⟨0, 0, rfl, by omega, rfl, by omega, rfl, rfl⟩
    case round =>
      obtain ⟨i, ii, hii, hi, rfl, hin, rfl, rfl⟩ := hrel
      have har := accu_range (f := f) hs (4 * q + i)
      by_cases hlt : i < 4
      · have hlt' : ii < 4 := by omega
        by_cases hend : 4 * q + i = n
        · have he : (4 * (q : Int) + ii == (n : Int)) = true := by simp; omega
          have hE := Lib.hid hend; have HI := Lib.hid hii
          clear hf h hs hend hq
          go_wp2
          try rw [Exit.noGoto_ret]
          go_ret
          exact ⟨by rw [hE.out]; rfl, rfl⟩
        · have hne : (4 * (q : Int) + ii == (n : Int)) = false := by simp; omega
          have hln : 4 * q + i < n := by omega
          have hln' : 4 * (q : Int) + ii < n := by omega
          obtain ⟨b, o, rfl, hb, hc⟩ := h (by omega)
          have hx : wr.cell? ⟨b, o + (4 * q + i), none⟩ = some (.int .u8 (f (4 * q + i))) := hc _ hln
          have hb8 := hf _ hln
          have hst : accu s f (4 * q + i + 1) = (accu s f (4 * q + i) + f (4 * q + i) * wgt (4 * q + i)) % 4294967296 := rfl
          have HS := Lib.hid hst
          generalize hf0 : f (4 * q + i) = v at hx hb8 HS
          generalize haa : accu s f (4 * q + i) = z at har HS
          clear hc hf h hf0 hend hst
          have hi4 : i = 0 ∨ i = 1 ∨ i = 2 ∨ i = 3 := by omega
          rcases hi4 with rfl | rfl | rfl | rfl
          · obtain rfl : ii = 0 := by omega
            rw [Nat.add_zero] at hx
            clear hii
            go_wp2
            go_roundg (gk - 1)
            case measure => omega
            case rel => exact ⟨1, 1, rfl, by omega, by have := HS.out; rw [wgt_0] at this; rw [show 4 * q + 1 = 4 * q + 0 + 1 from rfl, this]; first | done | rfl | rw [Int.mul_one], by omega, rfl, rfl⟩
          · obtain rfl : ii = 1 := by omega
            clear hii
            go_wp2
            go_roundg (gk - 1)
            case measure => omega
            case rel => exact ⟨2, 2, rfl, by omega, by have := HS.out; rw [wgt_1] at this; rw [show 4 * q + 2 = 4 * q + 1 + 1 from rfl, this]; first | done | rfl | rw [Int.mul_one], by omega, rfl, rfl⟩
          · obtain rfl : ii = 2 := by omega
            clear hii
            go_wp2
            go_roundg (gk - 1)
            case measure => omega
            case rel => exact ⟨3, 3, rfl, by omega, by have := HS.out; rw [wgt_2] at this; rw [show 4 * q + 3 = 4 * q + 2 + 1 from rfl, this]; first | done | rfl | rw [Int.mul_one], by omega, rfl, rfl⟩
          · obtain rfl : ii = 3 := by omega
            clear hii
            go_wp2
            go_roundg (gk - 1)
            case measure => omega
            case rel => exact ⟨4, 4, rfl, by omega, by have := HS.out; rw [wgt_3] at this; rw [show 4 * q + 4 = 4 * q + 3 + 1 from rfl, this]; first | done | rfl | rw [Int.mul_one], by omega, rfl, rfl⟩
      · obtain rfl : i = 4 := by omega
        obtain rfl : ii = 4 := by omega
        clear hf h hii
        go_wp2
        go_roundg (g - 1)
        case measure => omega
        case rel => exact ⟨q + 1, by omega, by omega, rfl, by simp; omega, rfl⟩

theorem ts_sum (A : Option Addr) (n c : Nat) (f : Nat → Int) (w : World) (h : Rd w w.heap.size A n (U8 f)) (hf : ∀ j, j < n → 0 ≤ f j ∧ f j ≤ 255) (hn : n ≤ 140737488355328) :
    Calls Try.prog 49 #[.slice A n c] w fun e w' => e = .returned (.int .u32 (accu 0 f n)) ∧ w' = w := by
  go_enter Try.func49, Try.ntmps49
  go_wp2_with (go_at_call 94; refine (ts_more 0 A n c f w h hf (by omega) hn).mono ?_; rintro e w1 ⟨rfl, rfl⟩)
  go_ret
  exact ⟨rfl, rfl⟩
theorem ts_adjust (s : Int) (w : World) (hs : 0 ≤ s ∧ s < 4294967296) :
    Calls Try.prog 53 #[.int .u32 s] w fun e w' => e = .returned (.int .u32 ((2981146554 - s) % 4294967296)) ∧ w' = w := by
  go_enter Try.func53, Try.ntmps53
  go_wp2
  go_ret
  exact ⟨rfl, rfl⟩
theorem ref_adjust (s : Int) (w : World) (hs : 0 ≤ s ∧ s < 4294967296) :
    Calls Try.prog 61 #[.int .u32 s] w fun e w' => e = .returned (.int .u32 ((2981146554 - s) % 4294967296)) ∧ w' = w := by
  have hs1 := hs.1
  have hs2 := hs.2
  have he : (7276113850 - s) % 4294967296 = (2981146554 - s) % 4294967296 := by omega
  have HE := Lib.hid he; clear he
  go_enter Try.func61, Try.ntmps61
  go_wp2
  go_ret
  exact ⟨by rw [← HE.out]; rfl, rfl⟩
/-- A byte moved up so far. -/
def up (v : Int) (e : Nat) : Int := v * 256 ^ e
theorem up_range {v : Int} {e : Nat} (h : 0 ≤ v ∧ v ≤ 255) (he : e ≤ 3) : 0 ≤ up v e ∧ up v e < 4294967296 := by
  have hh : e = 0 ∨ e = 1 ∨ e = 2 ∨ e = 3 := by omega
  unfold up
  rcases hh with rfl | rfl | rfl | rfl <;> simp only [Int.reducePow] <;> omega
theorem up_next (v : Int) (e : Nat) : up v e * 256 = up v (e + 1) := by unfold up; rw [Int.pow_succ, Int.mul_assoc]
theorem up_wgt (v : Int) (j : Nat) : up v (3 - j % 4) = v * wgt j := by
  have hh : j % 4 = 0 ∨ j % 4 = 1 ∨ j % 4 = 2 ∨ j % 4 = 3 := by omega
  unfold up wgt
  rcases hh with h | h | h | h <;> rw [h] <;> rfl

set_option maxHeartbeats 4000000 in
theorem ref_sum (A : Option Addr) (n c : Nat) (f : Nat → Int) (w : World) (h : Rd w w.heap.size A n (U8 f)) (hf : ∀ j, j < n → 0 ≤ f j ∧ f j ≤ 255) (hn : n ≤ 140737488355328) :
    Calls Try.prog 27 #[.slice A n c] w fun e w' => e = .returned (.int .u32 (accu 0 f n)) ∧ w' = w := by
  go_enter Try.func27, Try.ntmps27
  go_wp2
  go_loop [3, 9] (fun x y => ∃ j : Nat, j ≤ n ∧ x = .int .u64 (accu 0 f j) ∧ y = .int .i64 j) (fun _ y => n - (intOf y).toNat)
  case atStart => exact ⟨0, by omega, rfl, rfl⟩
  case round =>
    obtain ⟨j, hj, rfl, rfl⟩ := hrel
    by_cases hjn : j < n
    · have hjn' : (j : Int) < n := by omega
      obtain ⟨b, o, rfl, hb, hc⟩ := h (by omega)
      have hx : w.cell? ⟨b, o + j, none⟩ = some (.int .u8 (f j)) := hc _ hjn
      have hb8 := hf _ hjn
      have har := accu_range (s := 0) (f := f) (by omega) j
      have HS := Lib.hid (show accu 0 f (j + 1) = (accu 0 f j + up (f j) (3 - j % 4)) % 4294967296 by rw [up_wgt]; rfl)
      have h0 : up (f j) 0 = f j := by unfold up; omega
      have hur := fun e (he : e ≤ 3) => up_range (e := e) hb8 he
      generalize f j = v at hx hb8 HS h0 hur
      generalize accu 0 f j = z at har HS
      have HU := Lib.hid hur
      have H0 := Lib.hid h0
      obtain ⟨r, hr⟩ : ∃ r, j % 4 = r := ⟨_, rfl⟩
      rw [hr] at HS
      have hr4 : r < 4 := by omega
      have hri : (j : Int) % 4 = (r : Int) := by omega
      clear hc hf h hur h0 hr
      go_wp2
      go_loop [5, 6] (fun x y => ∃ k : Nat, r ≤ k ∧ k ≤ 3 ∧ x = .int .u64 (up v (k - r)) ∧ y = .int .i64 k) (fun _ y => 3 - (intOf y).toNat)
      case atStart => exact ⟨r, by omega, by omega, by rw [Nat.sub_self, H0.out], rfl⟩
      case round =>
        obtain ⟨k, hk, hk3, rfl, rfl⟩ := hrel
        by_cases hlt : k < 3
        · have hlt' : (k : Int) < 3 := by omega
          have hu1 := HU.out (k - r) (by omega)
          have hn1 := up_next v (k - r)
          have hu2 := HU.out (k - r + 1) (by omega)
          rw [← hn1] at hu2
          have HN := Lib.hid hn1
          generalize up v (k - r) = m at hu1 hu2 HN
          clear hn1
          go_wp2
          go_round
          case rel => exact ⟨k + 1, by omega, by omega, by rw [show k + 1 - r = k - r + 1 by omega, ← HN.out], by go_num⟩
          case measure => simp [intOf]; omega
        · obtain rfl : k = 3 := by omega
          have hu1 := HU.out (3 - r) (by omega)
          generalize up v (3 - r) = m at hu1 HS
          go_wp2
          go_round
          case rel => exact ⟨j + 1, by omega, by rw [HS.out], by go_num⟩
          case measure => simp [intOf]; omega
    · obtain rfl : j = n := by omega
      have har := accu_range (s := 0) (f := f) (by omega) j
      clear hf h
      go_wp2
      go_ret
      exact ⟨rfl, rfl⟩
end Go.Proofs.Ytpplnapfpoloiaa
