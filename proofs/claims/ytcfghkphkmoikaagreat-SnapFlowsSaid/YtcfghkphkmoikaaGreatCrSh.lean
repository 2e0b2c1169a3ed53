/-
  Layer 15: what good lines have in common has good numbers.
-/
import Derived.Test.YtcfghkphkmoikaaGreatCrV
import Derived.Test.YtcfghkphkmoikaaGreatMqM
namespace Go.Proofs.YtcfghkphkmoikaaGreat
set_option maxRecDepth 100000
open Go.RowKit
set_option linter.unusedVariables false

theorem wf_lnG {s : Ln} (h : lnG s = true) : s.wf := by
  have k1 := goodB_iff.1 (Bool.and_eq_true_iff.1 h).1
  have k2 := goodB_iff.1 (Bool.and_eq_true_iff.1 h).2
  unfold Ln.wf InP In64
  omega
theorem meet_ok (s t : Ln) (hs : lnG s = true) (ht : lnG t = true) (w : World) : Calls Tryz.prog 64 #[s.v, t.v] w fun e w' => e = .returned (.tuple #[(meetG s t).v, .int .i64 0]) ∧ Since w w' := by
  have h := cr_meet s t (wf_lnG hs) (wf_lnG ht) w
  unfold meetCp meetE at h
  rw [hs, ht] at h
  exact h
theorem meet_d (s t : Ln) (hs : lnG s = true) (ht : lnG t = true) : (meetG s t).d ≤ 1125899906842624 := by
  have k1 := goodB_iff.1 (Bool.and_eq_true_iff.1 hs).1
  have k2 := goodB_iff.1 (Bool.and_eq_true_iff.1 hs).2
  have k3 := goodB_iff.1 (Bool.and_eq_true_iff.1 ht).1
  have k4 := goodB_iff.1 (Bool.and_eq_true_iff.1 ht).2
  have n1 : Near (s.bx - s.ax) := by unfold Near; omega
  have n2 : Near (s.bz - s.ay) := by unfold Near; omega
  have n5 : Near (t.bx - t.ax) := by unfold Near; omega
  have n6 : Near (t.bz - t.ay) := by unfold Near; omega
  have m5 := near_mul n1 n6; have m6 := near_mul n2 n5
  have hc : -562949953421312 ≤ cC s t ∧ cC s t ≤ 562949953421312 := by unfold cC crossI; omega
  unfold meetG
  split
  · decide
  · split
    · rcases touch_cases (ends s t) with ⟨_, e⟩ | ⟨x, _, e⟩ | e <;> rw [e]
      · decide
      · show (1 : Int) ≤ _; omega
      · decide
    · unfold crossCp
      split
      · rcases crossPos_k s (-nC s t) (-mC s t) (-cC s t) with ⟨_, e⟩ | ⟨_, e⟩ <;> rw [e]
        · show -cC s t ≤ _; omega
        · decide
      · rcases crossPos_k s (nC s t) (mC s t) (cC s t) with ⟨_, e⟩ | ⟨_, e⟩ <;> rw [e]
        · show cC s t ≤ _; omega
        · decide
theorem meet_sh (s t : Ln) (hs : lnG s = true) (ht : lnG t = true) (hk : (meetG s t).k = 1) : ShOK (meetG s t).x (meetG s t).d ∧ ShOK (meetG s t).y (meetG s t).d := by
  have k1 := goodB_iff.1 (Bool.and_eq_true_iff.1 hs).1
  have k2 := goodB_iff.1 (Bool.and_eq_true_iff.1 hs).2
  have hd := meet_d s t hs ht
  obtain ⟨h0, h1, h2, h3, h4⟩ := meetG_in s t hk
  have l1 : -4194304 ≤ lo2 s.ax s.bx := by unfold lo2; split <;> omega
  have l2 : hi2 s.ax s.bx ≤ 4194304 := by unfold hi2; split <;> omega
  have l3 : -4194304 ≤ lo2 s.ay s.bz := by unfold lo2; split <;> omega
  have l4 : hi2 s.ay s.bz ≤ 4194304 := by unfold hi2; split <;> omega
  have b1 : -4194304 * (meetG s t).d ≤ lo2 s.ax s.bx * (meetG s t).d := Int.mul_le_mul_of_nonneg_right l1 (by omega)
  have b2 : hi2 s.ax s.bx * (meetG s t).d ≤ 4194304 * (meetG s t).d := Int.mul_le_mul_of_nonneg_right l2 (by omega)
  have b3 : -4194304 * (meetG s t).d ≤ lo2 s.ay s.bz * (meetG s t).d := Int.mul_le_mul_of_nonneg_right l3 (by omega)
  have b4 : hi2 s.ay s.bz * (meetG s t).d ≤ 4194304 * (meetG s t).d := Int.mul_le_mul_of_nonneg_right l4 (by omega)
  unfold ShOK
  omega
theorem pixel_ok (s t : Ln) (hs : lnG s = true) (ht : lnG t = true) (w : World) : Calls Tryz.prog 65 #[(meetG s t).v] w fun e w' => e = .returned (.tuple #[Pt (pixX (meetG s t)) (pixY (meetG s t)), .bool ((meetG s t).k == 1)]) ∧ Since w w' :=
  cr_pixel _ (meet_sh s t hs ht) w
end Go.Proofs.YtcfghkphkmoikaaGreat
