/-
  The reference's 'Great' and 'Copy' of outlines, walked.
-/
import Derived.Test.YtpplnapfpoloiaaKitO
namespace Go.Proofs.Ytpplnapfpoloiaa
open Go.RowKit Go.ChangeShapes Go.WideShapes Go.Deep
set_option linter.unusedVariables false

def sumL (LL : List (List Kt)) : Nat := (LL.map List.length).sum
theorem sum_take {LL : List (List Kt)} {j : Nat} {L : List Kt} (hj : LL[j]? = some L) : sumL (LL.take (j + 1)) = sumL (LL.take j) + L.length := by
  have hjl : j < LL.length := by
    rcases Nat.lt_or_ge j LL.length with h | h
    · exact h
    · rw [List.getElem?_eq_none h] at hj; cases hj
  have e : LL[j] = L := by rw [List.getElem?_eq_getElem hjl] at hj; injection hj
  unfold sumL
  rw [List.take_succ_eq_append_getElem hjl, List.map_append, List.sum_append, e]
  simp
/-- What isn't great. -/
def NotGreat (LL : List (List Kt)) : Prop := LL.length ≤ 600 ∧ (∀ L, L ∈ LL → L.length ≤ 5000) ∧ sumL LL ≤ 9000
def GreatOut (w : World) (LL : List (List Kt)) (e : Ending) (w' : World) : Prop := ∃ g : Bool, e = .returned (.bool g) ∧ (g = false → NotGreat LL) ∧ Since w w'
set_option maxRecDepth 100000 in
set_option maxHeartbeats 8000000 in
theorem rf_great (A : Option Addr) (c : Nat) (LL : List (List Kt)) (w : World) (h : RdOL w w.heap.size A LL) (hn : LL.length ≤ maxLen) (hm : ∀ L, L ∈ LL → L.length ≤ maxLen) :
    Calls Try.prog 36 #[.slice A LL.length c] w (GreatOut w LL) := by
  obtain ⟨N, hN⟩ : ∃ N, N = LL.length := ⟨_, rfl⟩
  rw [← hN] at hn ⊢
  have HN := Lib.hid hN
  have HM := Lib.hid hm
  clear hN hm
  have hn' : (N : Int) ≤ 9223372036854775807 := by simp only [maxLen] at hn; omega
  by_cases h6 : N ≤ 600
  · have d1 : decide ((600 : Int) < (N : Int)) = false := by simp; omega
    have d2 : ¬ (600 : Int) < (N : Int) := by omega
    go_enter Try.func36, Try.ntmps36
    go_wp2_with fail
    go_loopw [3, 11] (fun v y wr => ∃ (j : Nat), j ≤ N ∧ y = .int .i64 (j : Int) ∧ v = .int .i64 ((sumL (LL.take j) : Nat) : Int) ∧ sumL (LL.take j) ≤ 5000 * j ∧ Hid (∀ i L, i < j → LL[i]? = some L → L.length ≤ 5000) ∧ Since w wr) (fun _ y _ => N - (intOf y).toNat)
    case atStart => exact ⟨0, by omega, rfl, rfl, by simp [sumL], Lib.hid (fun i L hi => absurd hi (by omega)), Since.refl _⟩
    case round =>
      obtain ⟨j, hj, rfl, rfl, hs, HL, hS⟩ := hrel
      by_cases hjn : j < N
      · have hjn' : (j : Int) < N := by omega
        have hL : LL[j]? = some (LL[j]'(by rw [← HN.out]; exact hjn)) := List.getElem?_eq_getElem _
        have hml := HM.out _ (List.mem_of_getElem? hL)
        generalize (LL[j]'(by rw [← HN.out]; exact hjn)) = L at *
        obtain ⟨b, o, A', c', rfl, hb, hcell, hK⟩ := h.row hL
        have hst := sum_take hL
        have HLJ := Lib.hid hL
        have HST := Lib.hid hst
        have c1 := (hS.1 _ _ hb).trans hcell
        have hbw := hS.2.2.1 _ hb
        have hlm : (L.length : Int) ≤ 9223372036854775807 := by simp only [maxLen] at hml; omega
        generalize hll : L.length = n at *
        generalize sumL (LL.take j) = S at *
        have u1 : IntKind.i64.wrap ((S : Int) + (n : Int)) = (S : Int) + (n : Int) ∨ 5000 < n := by
          by_cases h5 : 5000 < n
          · exact .inr h5
          · exact .inl (IntWalk.i64_in _ (by omega))
        clear hL hst h hcell hK
        by_cases h5 : n ≤ 5000
        · have d3 : decide ((5000 : Int) < (n : Int)) = false := by simp; omega
          have d4 : ¬ (5000 : Int) < (n : Int) := by omega
          have u1 : IntKind.i64.wrap ((S : Int) + (n : Int)) = (S : Int) + (n : Int) := IntWalk.i64_in _ (by omega)
          go_wp2_with fail
          go_roundw
          case rel =>
            refine ⟨j + 1, by omega, by go_num, by rw [HST.out]; go_num, by rw [HST.out]; omega, Lib.hid (fun i M hi hM => ?_), hS⟩
            by_cases e : i = j
            · subst e
              rw [HLJ.out] at hM
              injection hM with hM
              subst hM
              omega
            · exact HL.out i M (by omega) hM
          case measure => simp [intOf]; omega
        · have d3 : decide ((5000 : Int) < (n : Int)) = true := by simp; omega
          have d4 : (5000 : Int) < (n : Int) := by omega
          go_wp2_with fail
          go_ret
          exact ⟨true, rfl, by simp, hS⟩
      · obtain rfl : N = j := by omega
        have e : LL.take N = LL := by rw [HN.out]; exact List.take_length
        rw [e] at hs ⊢
        have HE : Hid (∀ L, L ∈ LL → L.length ≤ 5000) := Lib.hid (fun L hL => by
          obtain ⟨i, hi, hg⟩ := List.getElem_of_mem hL
          exact HL.out i L (by rw [HN.out]; exact hi) (by rw [List.getElem?_eq_getElem hi, hg]))
        obtain ⟨S, hS0⟩ : ∃ S, S = sumL LL := ⟨_, rfl⟩
        rw [← hS0] at hs ⊢
        have HS0 := Lib.hid hS0
        clear hS0 e
        by_cases h9 : S ≤ 9000
        · have d3 : decide ((9000 : Int) < (S : Int)) = false := by simp; omega
          have d4 : ¬ (9000 : Int) < (S : Int) := by omega
          go_wp2_with fail
          go_ret
          exact ⟨false, rfl, fun _ => ⟨by rw [← HN.out]; exact h6, HE.out, by rw [← HS0.out]; exact h9⟩, hS⟩
        · have d3 : decide ((9000 : Int) < (S : Int)) = true := by simp; omega
          have d4 : (9000 : Int) < (S : Int) := by omega
          go_wp2_with fail
          go_ret
          exact ⟨true, rfl, by simp, hS⟩
  · have d1 : decide ((600 : Int) < (N : Int)) = true := by simp; omega
    have d2 : (600 : Int) < (N : Int) := by omega
    go_enter Try.func36, Try.ntmps36
    go_wp2_with fail
    go_ret
    exact ⟨true, rfl, by simp, by (repeat (first | with_reducible (exact Since.refl _) | with_reducible assumption | with_reducible (refine Since.drew ?_) | with_reducible (refine Since.drewN ?_ _) | with_reducible (refine Since.alloc ?_ _) | (with_reducible (refine Since.setCell ?_ ?_ _); rotate_left; focus (first | (simp; done) | (simp; omega) | omega)) | (with_reducible (refine Since.trans ?_ (by with_reducible assumption)))))⟩
end Go.Proofs.Ytpplnapfpoloiaa
