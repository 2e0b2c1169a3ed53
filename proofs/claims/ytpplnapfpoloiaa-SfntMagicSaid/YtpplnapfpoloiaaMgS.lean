/-
  Texts of this seat, put together: each with its own head.
-/
import Derived.Test.YtpplnapfpoloiaaKitTb
import Derived.Deep.RegionLaw
import Derived.Deep.QuietTactic
import Derived.BigQuiet
import Derived.Test.YtpplnapfpoloiaaTsD
import Derived.Test.YtpplnapfpoloiaaCoB
import Derived.Lib.SliceRun
import Derived.Laws.Cover1
import Derived.Test.YtpplnapfpoloiaaDivA
import Derived.Test.YtpplnapfpoloiaaBeF
import Derived.Test.YtpplnapfpoloiaaKitT
import Derived.Lib.AppendStr
import Derived.Test.YtpplnapfpoloiaaBeG
import Derived.Laws.IdiomCopy
import Derived.Test.YtpplnapfpoloiaaSiE
import Derived.Test.YtpplnapfpoloiaaMgB
import Derived.Laws.IdiomStrings
import Derived.Test.YtpplnapfpoloiaaSiO
import Derived.Test.YtpplnapfpoloiaaKitBut

/-
  Layer 4: the reference's Copy, Great, Same of tables, walked.
-/
namespace Go.Proofs.Ytpplnapfpoloiaa
open Go.RowKit Go.ChangeShapes Go.WideShapes Go.Deep
set_option linter.unusedVariables false
set_option linter.unusedSimpArgs false

set_option maxRecDepth 100000 in
set_option maxHeartbeats 8000000 in
theorem rf_copyT (A : Option Addr) (c : Nat) (TT : List Tb) (w : World) (h : RdTL w w.heap.size A TT) (hn : TT.length ≤ 100000) (hm : ∀ T, T ∈ TT → T.data.length ≤ 1000000) :
    Calls Try.prog 17 #[.slice A TT.length c] w fun e w' => ∃ A' c', e = .returned (.slice A' TT.length c') ∧ OwnT w' w.heap.size (.slice A' TT.length c') TT ∧ Since w w' := by
  obtain ⟨N, hN⟩ : ∃ N, N = TT.length := ⟨_, rfl⟩
  rw [← hN] at hn ⊢
  have HN := Lib.hid hN
  have HM := Lib.hid hm
  clear hN hm
  go_enter Try.func17, Try.ntmps17
  go_wp2_with fail
  go_loopw [3, 8] (fun v y wr => ∃ (j : Nat), j ≤ N ∧ y = .int .i64 (j : Int) ∧ OwnT wr w.heap.size v (TT.take j) ∧ Since w wr) (fun _ y _ => N - (intOf y).toNat)
  case atStart => exact ⟨0, by omega, rfl, OwnT.nil _ _, Since.refl _⟩
  case round =>
    obtain ⟨j, hj, rfl, hO, hS⟩ := hrel
    by_cases hjn : j < N
    · have hjn' : (j : Int) < N := by omega
      have hjL : j < TT.length := by rw [← HN.out]; exact hjn
      have hT : TT[j]? = some TT[j] := List.getElem?_eq_getElem hjL
      have hml := HM.out _ (List.mem_of_getElem? hT)
      have HTK := Lib.hid (show TT.take (j + 1) = TT.take j ++ [TT[j]] from List.take_succ_eq_append_getElem hjL)
      have hlt : (TT.take j).length ≤ 1000000 := by rw [List.length_take]; omega
      obtain ⟨b, o, A', c', rfl, hb, hc1, hc2, hK⟩ := h.row hT
      generalize TT[j] = T at *
      obtain ⟨s, L⟩ := T
      simp only at hml hc1 hc2 hK HTK
      have c1 := (hS.1 _ _ hb).trans hc1
      have c2 := (hS.1 _ _ hb).trans hc2
      have hbw := hS.2.2.1 _ hb
      have hK := (hK.since (Nat.le_refl _) hS).more hS.below.size
      have hwz := hS.below.size
      obtain ⟨n, hn0⟩ : ∃ n, n = L.length := ⟨_, rfl⟩
      rw [← hn0] at c2 hml
      have HC := Lib.hid (fun (w2 : World) (h2 : Since wr w2) => copy_l A' n c' L w2 hn0 (hK.on h2) (by omega))
      clear hT h hc1 hc2 hjL hn0
      generalize TT.take j = LJ at *
      go_upto_region 5 with fail
      go_region_law (first | (rw [if_pos (by rfl)]; refine oper_append_tb (.tmp 12) (.tmp 19) (by rfl) w.heap.size _ LJ (by rfl) hO5 _ 1 s (some ⟨g4, 0, none⟩) n c4 L (by rfl) _ rfl hR4 hlt hz4 ?_; intro v7 w7 hO7 hg7 hb7; have hS7 : Since w w7 := since_grown (hS4.alloc _) hg7 (fun q hq => (hb7 q hq).1)) | (go_simp; go_wp2_with (go_at_call 28; (with_reducible refine (HC.out _ (by (repeat (first | with_reducible (exact Since.refl _) | with_reducible assumption | with_reducible (refine Since.drew ?_) | with_reducible (refine Since.drewN ?_ _) | with_reducible (refine Since.alloc ?_ _) | (with_reducible (refine Since.setCell ?_ ?_ _); rotate_left; focus (first | (simp; done) | (simp; omega) | omega)) | (with_reducible (refine Since.trans ?_ (by with_reducible assumption))))))).mono ?_); rintro e w4 ⟨g4, c4, rfl, hc4, hg4, hR4, hB4, hS4a⟩; have hX4 : Since wr w4 := (by (repeat (first | with_reducible (exact Since.refl _) | with_reducible assumption | with_reducible (refine Since.drew ?_) | with_reducible (refine Since.drewN ?_ _) | with_reducible (refine Since.alloc ?_ _) | (with_reducible (refine Since.setCell ?_ ?_ _); rotate_left; focus (first | (simp; done) | (simp; omega) | omega)) | (with_reducible (refine Since.trans ?_ (by with_reducible assumption)))))); have hS4 := hS.trans hX4; have hz4 := hS4.below.size; have hO5 := hO.since hX4; have hR4 := hR4.low (base' := w.heap.size) (by (first | (simp; done) | (simp; omega) | omega)); obtain ⟨q1, q2, q3⟩ := two_tbd hS4a)))
      all_goals go_wp2_with fail
      all_goals go_roundw
      all_goals first | (simp [intOf]; omega) | exact ⟨j + 1, by omega, by first | rfl | go_num | simp, by rw [HTK.out]; exact hO7, hS7⟩
    · obtain rfl : N = j := by omega
      have hjn' : ¬ (N : Int) < (N : Int) := by omega
      have e : TT.take N = TT := by rw [HN.out]; exact List.take_length
      rw [e] at hO
      obtain ⟨A', c', rfl, hc', hr⟩ := hO.rd
      have HOO := Lib.hid hO
      rw [← HN.out]
      clear hO hr e
      go_wp2_with fail
      go_ret
      exact ⟨A', c', rfl, (by have := HOO.out; rw [← HN.out] at this; exact this), hS⟩
/-- How many bytes tables hold. -/
def sumT (TT : List Tb) : Nat := (TT.map (fun T => T.data.length)).sum
theorem sumT_snoc (TT : List Tb) (T : Tb) : sumT (TT ++ [T]) = sumT TT + T.data.length := by unfold sumT; rw [List.map_append, List.sum_append_nat]; simp
/-- Tables that are looked at. -/
def NotGreatT (g : Bool) (TT : List Tb) : Prop := g = false → TT.length ≤ 101 ∧ (∀ T, T ∈ TT → T.data.length ≤ 40000 ∧ T.tag.size ≤ 100) ∧ sumT TT ≤ 100000
def GreatTP (TT : List Tb) (w : World) (e : Ending) (w' : World) : Prop := ∃ g, e = .returned (.bool g) ∧ NotGreatT g TT ∧ Since w w'
set_option maxRecDepth 100000 in
set_option maxHeartbeats 8000000 in
theorem rf_greatT (A : Option Addr) (c : Nat) (TT : List Tb) (w : World) (h : RdTL w w.heap.size A TT) (hn : TT.length ≤ maxLen) (hm : ∀ T, T ∈ TT → T.data.length ≤ maxLen ∧ T.tag.size ≤ maxLen) :
    Calls Try.prog 16 #[.slice A TT.length c] w (GreatTP TT w) := by
  obtain ⟨N, hN⟩ : ∃ N, N = TT.length := ⟨_, rfl⟩
  rw [← hN] at hn ⊢
  have hNI : (N : Int) ≤ 9223372036854775807 := by simp only [maxLen] at hn; omega
  have HN := Lib.hid hN
  have HM := Lib.hid hm
  clear hN hm
  go_enter Try.func16, Try.ntmps16
  go_wp2_with fail
  go_loopw [3, 8] (fun v y wr => ∃ (j : Nat) (s : Nat), j ≤ N ∧ j ≤ 101 ∧ y = .int .i64 (j : Int) ∧ v = .int .i64 (s : Int) ∧ s ≤ j * 40000 ∧ Hid (s = sumT (TT.take j) ∧ ∀ T, T ∈ TT.take j → T.data.length ≤ 40000 ∧ T.tag.size ≤ 100) ∧ Since w wr) (fun _ y _ => N - (intOf y).toNat)
  case atStart => exact ⟨0, 0, by omega, by omega, rfl, rfl, by omega, Lib.hid ⟨rfl, fun T h => by simp at h⟩, Since.refl _⟩
  case round =>
    obtain ⟨j, s, hj, hj1, rfl, rfl, hs, HH, hS⟩ := hrel
    have hsI : (s : Int) ≤ 4040000 := by omega
    by_cases hjn : j < N
    · have hjn' : (j : Int) < N := by omega
      have hjL : j < TT.length := by rw [← HN.out]; exact hjn
      have hT : TT[j]? = some TT[j] := List.getElem?_eq_getElem hjL
      obtain ⟨hml, hms⟩ := HM.out _ (List.mem_of_getElem? hT)
      have HTK := Lib.hid (show TT.take (j + 1) = TT.take j ++ [TT[j]] from List.take_succ_eq_append_getElem hjL)
      obtain ⟨b, o, A', c', rfl, hb, hc1, hc2, hK⟩ := h.row hT
      generalize TT[j] = T at *
      obtain ⟨t, L⟩ := T
      simp only at hml hms hc1 hc2 hK HTK
      have c1 := (hS.1 _ _ hb).trans hc1
      have c2 := (hS.1 _ _ hb).trans hc2
      have hbw := hS.2.2.1 _ hb
      obtain ⟨n, hn0⟩ : ∃ n, n = L.length := ⟨_, rfl⟩
      rw [← hn0] at c2 hml
      have HNL := Lib.hid hn0
      simp only [maxLen] at hml hms
      have hnI : (n : Int) ≤ 9223372036854775807 := by omega
      have hzI : (t.size : Int) ≤ 9223372036854775807 := by omega
      clear hT h hc1 hc2 hjL hn0 hK
      by_cases t1 : 100 < j
      · have t1' : (100 : Int) < (j : Int) := by omega
        have d1 : decide ((100 : Int) < (j : Int)) = true := by simpa using t1'
        go_wp2_with fail
        go_ret
        exact ⟨true, rfl, (fun h => Bool.noConfusion h), by (repeat (first | with_reducible (exact Since.refl _) | with_reducible assumption | with_reducible (refine Since.drew ?_) | with_reducible (refine Since.drewN ?_ _) | with_reducible (refine Since.alloc ?_ _) | (with_reducible (refine Since.setCell ?_ ?_ _); rotate_left; focus (first | (simp; done) | (simp; omega) | omega)) | (with_reducible (refine Since.trans ?_ (by with_reducible assumption)))))⟩
      have d1 : decide ((100 : Int) < (j : Int)) = false := by simp; omega
      by_cases t2 : 40000 < n
      · have d2 : decide ((40000 : Int) < (n : Int)) = true := by simp; omega
        go_wp2_with fail
        go_ret
        exact ⟨true, rfl, (fun h => Bool.noConfusion h), by (repeat (first | with_reducible (exact Since.refl _) | with_reducible assumption | with_reducible (refine Since.drew ?_) | with_reducible (refine Since.drewN ?_ _) | with_reducible (refine Since.alloc ?_ _) | (with_reducible (refine Since.setCell ?_ ?_ _); rotate_left; focus (first | (simp; done) | (simp; omega) | omega)) | (with_reducible (refine Since.trans ?_ (by with_reducible assumption)))))⟩
      have d2 : decide ((40000 : Int) < (n : Int)) = false := by simp; omega
      by_cases t3 : 100 < t.size
      · have d3 : decide ((100 : Int) < (t.size : Int)) = true := by simp; omega
        go_wp2_with fail
        go_ret
        exact ⟨true, rfl, (fun h => Bool.noConfusion h), by (repeat (first | with_reducible (exact Since.refl _) | with_reducible assumption | with_reducible (refine Since.drew ?_) | with_reducible (refine Since.drewN ?_ _) | with_reducible (refine Since.alloc ?_ _) | (with_reducible (refine Since.setCell ?_ ?_ _); rotate_left; focus (first | (simp; done) | (simp; omega) | omega)) | (with_reducible (refine Since.trans ?_ (by with_reducible assumption)))))⟩
      have d3 : decide ((100 : Int) < (t.size : Int)) = false := by simp; omega
      have HN2 := Lib.hid (show s + n = sumT (TT.take (j + 1)) ∧ ∀ T, T ∈ TT.take (j + 1) → T.data.length ≤ 40000 ∧ T.tag.size ≤ 100 from ⟨by rw [HTK.out, sumT_snoc, ← HH.out.1, HNL.out], fun T hT => by
        rw [HTK.out] at hT
        rcases List.mem_append.1 hT with h | h
        · exact HH.out.2 T h
        · obtain rfl := List.mem_singleton.1 h
          exact ⟨by have := HNL.out; simp only; omega, by simp only; omega⟩⟩)
      go_wp2_with fail
      go_roundw
      case rel => first | exact ⟨j + 1, s + n, by omega, by omega, by first | rfl | go_num | simp, by first | rfl | go_num | simp, by rw [Nat.succ_mul]; omega, HN2, by (repeat (first | with_reducible (exact Since.refl _) | with_reducible assumption | with_reducible (refine Since.drew ?_) | with_reducible (refine Since.drewN ?_ _) | with_reducible (refine Since.alloc ?_ _) | (with_reducible (refine Since.setCell ?_ ?_ _); rotate_left; focus (first | (simp; done) | (simp; omega) | omega)) | (with_reducible (refine Since.trans ?_ (by with_reducible assumption)))))⟩ | ((repeat apply Exists.intro); refine ⟨?_, rfl⟩; exact ⟨j + 1, s + n, by omega, by omega, by first | rfl | go_num | simp, by first | rfl | go_num | simp, by rw [Nat.succ_mul]; omega, HN2, by (repeat (first | with_reducible (exact Since.refl _) | with_reducible assumption | with_reducible (refine Since.drew ?_) | with_reducible (refine Since.drewN ?_ _) | with_reducible (refine Since.alloc ?_ _) | (with_reducible (refine Since.setCell ?_ ?_ _); rotate_left; focus (first | (simp; done) | (simp; omega) | omega)) | (with_reducible (refine Since.trans ?_ (by with_reducible assumption)))))⟩)
      case measure => simp [intOf]; omega
    · obtain rfl : N = j := by omega
      have hjn' : ¬ (N : Int) < (N : Int) := by omega
      have e : TT.take N = TT := by rw [HN.out]; exact List.take_length
      have HH2 := HH.out
      rw [e] at HH2
      have HF := Lib.hid HH2
      clear HH2 HH e h
      by_cases t4 : 100000 < s
      · have d4 : decide ((100000 : Int) < (s : Int)) = true := by simp; omega
        go_wp2_with fail
        go_ret
        exact ⟨true, by first | rfl | simp, (fun h => Bool.noConfusion h), hS⟩
      · have d4 : decide ((100000 : Int) < (s : Int)) = false := by simp; omega
        go_wp2_with fail
        go_ret
        exact ⟨false, by first | rfl | simp, fun _ => ⟨by rw [← HN.out]; exact hj1, HF.out.2, by rw [← HF.out.1]; omega⟩, hS⟩
set_option maxRecDepth 100000 in
set_option maxHeartbeats 8000000 in
theorem rf_sameT (A B : Option Addr) (c d N M : Nat) (TT : List Tb) (w : World) (h : RdTL w w.heap.size A TT) (h' : RdTL w w.heap.size B TT) (hN : N = TT.length) (hM : M = TT.length) (hn : TT.length ≤ maxLen) :
    Calls Try.prog 21 #[.slice A N c, .slice B M d] w fun e w' => e = .returned (.bool true) ∧ Since w w' := by
  have hMN : M = N := by omega
  subst hMN
  have HN := Lib.hid hN
  have hNx : M ≤ maxLen := by omega
  have hNI : (M : Int) ≤ 9223372036854775807 := by simp only [maxLen] at hNx; omega
  clear hM hN hn
  go_enter Try.func21, Try.ntmps21
  go_wp2_with fail
  go_loopw [13] (fun y wr => ∃ (j k : Nat), j ≤ M ∧ y = .int .i64 (j : Int) ∧ Hid (wr = w.drewN k)) (fun y _ => M - (intOf y).toNat)
  case atStart => exact ⟨0, 0, by omega, rfl, Lib.hid rfl⟩
  case round =>
    obtain ⟨j, k, hj, rfl, hw⟩ := hrel
    by_cases hjn : j < M
    · have hjn' : (j : Int) < M := by omega
      have hjL : j < TT.length := by rw [← HN.out]; exact hjn
      have hT : TT[j]? = some TT[j] := List.getElem?_eq_getElem hjL
      obtain ⟨b, o, A', c', rfl, hb, c1, c2, hK⟩ := h.row hT
      obtain ⟨b2, o2, A2, c3, rfl, hb2, c4, c5, hK2⟩ := h'.row hT
      generalize TT[j] = T at *
      obtain ⟨t, L⟩ := T
      simp only at c1 c2 c4 c5 hK hK2
      have c1 := (show wr.cell? ⟨b, o + j * 2, none⟩ = some (.string t) by rw [hw.out]; exact c1)
      have c2 := (show wr.cell? ⟨b, o + j * 2 + 1, none⟩ = some (.slice A' L.length c') by rw [hw.out]; exact c2)
      have c4 := (show wr.cell? ⟨b2, o2 + j * 2, none⟩ = some (.string t) by rw [hw.out]; exact c4)
      have c5 := (show wr.cell? ⟨b2, o2 + j * 2 + 1, none⟩ = some (.slice A2 L.length c3) by rw [hw.out]; exact c5)
      have hK : RdB wr wr.heap.size A' L := by rw [hw.out]; exact hK
      have hK2 : RdB wr wr.heap.size A2 L := by rw [hw.out]; exact hK2
      obtain ⟨n, hn0⟩ : ∃ n, n = L.length := ⟨_, rfl⟩
      rw [← hn0] at c2 c5
      have HS := Lib.hid (fun (i : Nat) => same_l A' A2 n n c' c3 L L (wr.drewN i) hn0 hn0 hK hK2 rfl)
      have ht : (t.toList == t.toList) = true := by simp
      have ht2 : (t.toList != t.toList) = false := by simp
      clear hT hjL hn0 hK hK2 h h'
      go_wp2_with fail
      go_quiet ((go_at_call 22; exact Calls.quiet_of_same (HS.out _)))
      go_wp2_with fail
      go_roundw
      case rel => first | exact ⟨j + 1, k + nq, by omega, by first | rfl | go_num | simp, Lib.hid (by rw [hw.out]; first | rfl | simp)⟩ | ((repeat apply Exists.intro); refine ⟨?_, rfl⟩; exact ⟨j + 1, k + nq, by omega, by first | rfl | go_num | simp, Lib.hid (by rw [hw.out]; first | rfl | simp)⟩)
      case measure => simp [intOf]; omega
    · obtain rfl : M = j := by omega
      have hjn' : ¬ (M : Int) < (M : Int) := by omega
      go_wp2_with fail
      go_ret
      exact ⟨by first | rfl | simp, by rw [hw.out]; exact (Since.refl w).drewN k⟩
end Go.Proofs.Ytpplnapfpoloiaa

/-
  Layer 4: a font's bytes as lists of numbers; which tables are right. No walk.
-/
namespace Go.Proofs.Ytpplnapfpoloiaa
open Go.RowKit Go.ChangeShapes Go.WideShapes Go.Deep
set_option linter.unusedVariables false
set_option linter.unusedSimpArgs false

/-- A tag's bytes as numbers. -/
def tagB (s : ByteArray) : List Int := s.data.toList.map (fun b => (b.toNat : Int))
/-- May a tag be? -/
def TagC (s : ByteArray) : Prop := s.size = 4 ∧ ∀ (j : Nat) (h : j < s.size), 32 ≤ (s[j].toNat : Int) ∧ (s[j].toNat : Int) ≤ 126
/-- Has a table the adjustment? -/
def adjT (T : Tb) : Bool := (T.tag.toList == [104, 101, 97, 100]) && decide (12 ≤ T.data.length)
/-- A table's data, with noughts as the adjustment. -/
def blank4 (T : Tb) : List Int := if adjT T then T.data.take 8 ++ ([0, 0, 0, 0] ++ T.data.drop 12) else T.data
theorem blank4_len (T : Tb) : (blank4 T).length = T.data.length := by
  unfold blank4
  split
  · rename_i h
    have : 12 ≤ T.data.length := by
      unfold adjT at h
      rw [Bool.and_eq_true] at h
      exact of_decide_eq_true h.2
    simp only [List.length_append, List.length_take, List.length_cons, List.length_nil, List.length_drop]; omega
  · rfl
theorem bytes_blank {T : Tb} (h : Bytes T.data) : Bytes (blank4 T) := by
  unfold blank4
  split
  · refine bytes_app (fun v hv => h v (List.mem_of_mem_take hv)) (bytes_app (fun v hv => ?_) (fun v hv => h v (List.mem_of_mem_drop hv)))
    simp only [List.mem_cons, List.not_mem_nil, or_false] at hv
    omega
  · exact h
/-- The sum of words. -/
def sumI (L : List Int) : Int := accu 0 (fnL L) L.length
def pad4 (n : Nat) : Nat := (n + 3) / 4 * 4
theorem pad4_le (n : Nat) : n ≤ pad4 n ∧ pad4 n ≤ n + 3 ∧ pad4 n % 4 = 0 := by unfold pad4; omega
def padL (L : List Int) : List Int := L ++ List.replicate (pad4 L.length - L.length) 0
theorem padL_len (L : List Int) : (padL L).length = pad4 L.length := by
  have := pad4_le L.length
  unfold padL; rw [List.length_append, List.length_replicate]; omega
theorem bytes_pad {L : List Int} (h : Bytes L) : Bytes (padL L) := bytes_app h (fun v hv => by rw [List.eq_of_mem_replicate hv]; omega)
/-- The directory's entry of a table, whose data starts at a place. -/
def ent4 (T : Tb) (a : Nat) : List Int := tagB T.tag ++ (putL (sumI (blank4 T)) 4 ++ (putL a 4 ++ putL T.data.length 4))
def ents4 : Nat → List Tb → List Int
  | _, [] => []
  | a, T :: r => ent4 T a ++ ents4 (a + pad4 T.data.length) r
def body4 (TT : List Tb) : List Int := TT.flatMap (fun T => padL (blank4 T))
/-- Where the next table's data starts. -/
def end4 (a : Nat) (TT : List Tb) : Nat := a + (TT.map (fun T => pad4 T.data.length)).sum
/-- Where the adjustment lies; -1: nowhere. -/
def adj4 : Int → Nat → List Tb → Int
  | x, _, [] => x
  | x, a, T :: r => adj4 (if adjT T then (a : Int) + 8 else x) (a + pad4 T.data.length) r
/-- The greatest power of two that is no more than n, its exponent. -/
def up4 (n : Nat) : Nat := Nat.log2 n
def dir4 (n : Nat) : List Int := putL 65536 4 ++ (putL n 2 ++ (putL ((16 * 2 ^ up4 n : Nat) : Int) 2 ++ (putL (up4 n) 2 ++ putL (((16 * n : Nat) : Int) - ((16 * 2 ^ up4 n : Nat) : Int)) 2)))
/-- The bytes ahead of the adjustment. -/
def raw4 (TT : List Tb) : List Int := dir4 TT.length ++ ents4 (12 + 16 * TT.length) TT ++ body4 TT
def layL (L : List Int) (p : Nat) (M : List Int) : List Int := L.take p ++ (M ++ L.drop (p + M.length))
/-- A font's bytes. -/
def file4 (TT : List Tb) : List Int :=
  if adj4 (-1) (12 + 16 * TT.length) TT < 0 then raw4 TT else layL (raw4 TT) (adj4 (-1) (12 + 16 * TT.length) TT).toNat (putL ((2981146554 - sumI (raw4 TT)) % 4294967296) 4)
theorem ents4_snoc : ∀ (TT : List Tb) (a : Nat) (T : Tb), ents4 a (TT ++ [T]) = ents4 a TT ++ ent4 T (end4 a TT) := by
  intro TT
  induction TT with
  | nil => intro a T; simp [ents4, end4]
  | cons U r ih =>
    intro a T
    rw [List.cons_append, ents4, ih, ents4, List.append_assoc]
    unfold end4
    rw [List.map_cons, List.sum_cons, Nat.add_assoc]
theorem end4_snoc (TT : List Tb) (a : Nat) (T : Tb) : end4 a (TT ++ [T]) = end4 a TT + pad4 T.data.length := by
  unfold end4; rw [List.map_append, List.sum_append_nat]; simp; omega
theorem adj4_snoc : ∀ (TT : List Tb) (x : Int) (a : Nat) (T : Tb), adj4 x a (TT ++ [T]) = if adjT T then (end4 a TT : Int) + 8 else adj4 x a TT := by
  intro TT
  induction TT with
  | nil => intro x a T; simp [adj4, end4]
  | cons U r ih =>
    intro x a T
    rw [List.cons_append, adj4, ih, adj4]
    have e : end4 (a + pad4 U.data.length) r = end4 a (U :: r) := by unfold end4; rw [List.map_cons, List.sum_cons, Nat.add_assoc]
    rw [e]
theorem body4_snoc (TT : List Tb) (T : Tb) : body4 (TT ++ [T]) = body4 TT ++ padL (blank4 T) := by unfold body4; rw [List.flatMap_append]; simp
theorem tagB_len (s : ByteArray) : (tagB s).length = s.size := by unfold tagB; rw [List.length_map]; cases s; rfl
theorem less_tri : ∀ x y : List UInt8, (!Op.bytesLess x y) = (Op.bytesLess y x || (y == x)) := by
  intro x
  induction x with
  | nil => intro y; cases y with
    | nil => rfl
    | cons b y => simp [Op.bytesLess]
  | cons a x ih => intro y; cases y with
    | nil => simp [Op.bytesLess]
    | cons b y =>
      have h := ih y
      have e : ((b :: y) == (a :: x)) = ((b == a) && (y == x)) := rfl
      rw [e]
      unfold Op.bytesLess
      by_cases h1 : a = b
      · subst h1
        have : ¬ a < a := UInt8.lt_irrefl a
        simp [this, h]
      · have h2 : (a == b) = false := by simpa using h1
        have h3 : (b == a) = false := by simpa using fun e => h1 e.symm
        rw [h2, h3]
        by_cases h4 : a < b
        · have h5 : ¬ b < a := fun h => by rw [UInt8.lt_iff_toNat_lt] at h h4; omega
          simp [h4, h5]
        · have h5 : b < a := by
            rw [UInt8.lt_iff_toNat_lt] at h4 ⊢
            have : a.toNat ≠ b.toNat := fun e => h1 (UInt8.toNat_inj.1 e)
            omega
          simp [h4, h5]
/-- A file's bytes, if these are its tables. -/
def size4 (TT : List Tb) : Nat := end4 (12 + 16 * TT.length) TT
/-- May tables be a font's? -/
def right4 (TT : List Tb) : Prop := 1 ≤ TT.length ∧ TT.length ≤ 64 ∧ size4 TT ≤ 1048576 ∧ (∀ (j : Nat) T, TT[j]? = some T → TagC T.tag) ∧ ∀ (j : Nat) T U, TT[j]? = some T → TT[j + 1]? = some U → Op.bytesLess T.tag.toList U.tag.toList = true
theorem end4_take_le (TT : List Tb) (a j : Nat) : end4 a (TT.take j) ≤ end4 a TT := by
  unfold end4
  have h : TT.map (fun T => pad4 T.data.length) = (TT.take j).map (fun T => pad4 T.data.length) ++ (TT.drop j).map (fun T => pad4 T.data.length) := by rw [← List.map_append, List.take_append_drop]
  rw [h, List.sum_append_nat]; omega
end Go.Proofs.Ytpplnapfpoloiaa

/-
  Layer 4: small functions on bytes and one table, walked.
-/
namespace Go.Proofs.Ytpplnapfpoloiaa
open Go.RowKit Go.ChangeShapes Go.WideShapes Go.Deep
set_option linter.unusedVariables false
set_option linter.unusedSimpArgs false

set_option maxRecDepth 100000 in
set_option maxHeartbeats 4000000 in
theorem bt_clone (A : Option Addr) (n c : Nat) (L : List Int) (w : World) (hr : RdB w w.heap.size A L) (hn : n = L.length) (hL : L.length ≤ 140737488355328) :
    Calls Try.prog 70 #[.slice A n c] w fun e w' => ∃ v, e = .returned v ∧ OwnB w' w.heap.size v L ∧ Since w w' := by
  subst hn
  have hnil := fun (w : World) (a : Option Addr) (n c : Nat) => Go.Lib.run_eql_slice_nil (P := Try.prog) w 26 5 a n c 0 0 Try.underlying26
  cases A with
  | none =>
    have h0 : L = [] := by
      rcases L with _ | ⟨a, l⟩
      · rfl
      · obtain ⟨b, o, h, _⟩ := hr (by simp)
        cases h
    subst h0
    go_enter Try.func70, Try.ntmps70
    go_wp2_with fail
    go_ret
    exact ⟨_, rfl, OwnG.nil _ _ _ _ _, by (repeat (first | with_reducible (exact Since.refl _) | with_reducible assumption | with_reducible (refine Since.drew ?_) | with_reducible (refine Since.drewN ?_ _) | with_reducible (refine Since.alloc ?_ _) | (with_reducible (refine Since.setCell ?_ ?_ _); rotate_left; focus (first | (simp; done) | (simp; omega) | omega)) | (with_reducible (refine Since.trans ?_ (by with_reducible assumption)))))⟩
  | some a =>
    have HR := Lib.hid hr
    clear hr
    go_enter Try.func70, Try.ntmps70
    go_wp2_with (at_builtin; refine wpList_append_g rfl _ _ 26 5 rfl (by omega) byL_len byL_one 1 Try.underlying26 infoBy w.heap.size _ [] rfl (OwnG.empty _ w w.heap.size _ rfl (Nat.le_refl _)) w.heap.size _ _ L rfl (HR.out.since (Nat.le_refl _) ((Since.refl w).alloc _)) (by simp only [List.length_nil]; omega) (by simp only [List.length_nil, maxLen]; omega) (by simp) ?_; intro v7 w7 hO7 hg7 hb7)
    have hS7 : Since w w7 := since_grown ((Since.refl w).alloc _) hg7 (fun k e => (hb7 k e).1)
    go_ret
    exact ⟨_, rfl, by simpa using hO7, hS7⟩
set_option maxRecDepth 100000 in
set_option maxHeartbeats 4000000 in
theorem sf_has (T : Tb) (A : Option Addr) (n c : Nat) (w : World) (hn : n = T.data.length) (hx : n ≤ maxLen) :
    Calls Try.prog 51 #[.agg #[.string T.tag, .slice A n c]] w fun e w' => e = .returned (.bool (adjT T)) ∧ Since w w' := by
  obtain ⟨s, L⟩ := T
  simp only at hn ⊢
  have hnI : (n : Int) ≤ 9223372036854775807 := by simp only [maxLen] at hx; omega
  have HN := Lib.hid hn
  obtain ⟨b, hb⟩ : ∃ b, (s.toList == [104, 101, 97, 100]) = b := ⟨_, rfl⟩
  have E := Lib.hid (show adjT ⟨s, L⟩ = (b && decide (12 ≤ L.length)) by unfold adjT; rw [← hb])
  clear hn
  cases b
  · have hb2 : ¬ s.toList = [104, 101, 97, 100] := by simpa using hb
    go_enter Try.func51, Try.ntmps51
    go_wp2_with fail
    go_ret
    rw [E.out]
    exact ⟨by first | rfl | simp, by (repeat (first | with_reducible (exact Since.refl _) | with_reducible assumption | with_reducible (refine Since.drew ?_) | with_reducible (refine Since.drewN ?_ _) | with_reducible (refine Since.alloc ?_ _) | (with_reducible (refine Since.setCell ?_ ?_ _); rotate_left; focus (first | (simp; done) | (simp; omega) | omega)) | (with_reducible (refine Since.trans ?_ (by with_reducible assumption)))))⟩
  · have hb2 : s.toList = [104, 101, 97, 100] := by simpa using hb
    by_cases h12 : 12 ≤ n
    · have d1 : decide ((12 : Int) ≤ (n : Int)) = true := by simp; omega
      have d2 : (12 : Int) ≤ (n : Int) := by omega
      go_enter Try.func51, Try.ntmps51
      go_wp2_with fail
      go_ret
      rw [E.out, decide_eq_true (by rw [← HN.out]; exact h12)]
      exact ⟨by first | rfl | simp, by (repeat (first | with_reducible (exact Since.refl _) | with_reducible assumption | with_reducible (refine Since.drew ?_) | with_reducible (refine Since.drewN ?_ _) | with_reducible (refine Since.alloc ?_ _) | (with_reducible (refine Since.setCell ?_ ?_ _); rotate_left; focus (first | (simp; done) | (simp; omega) | omega)) | (with_reducible (refine Since.trans ?_ (by with_reducible assumption)))))⟩
    · have d1 : decide ((12 : Int) ≤ (n : Int)) = false := by simp; omega
      have d2 : ¬ (12 : Int) ≤ (n : Int) := by omega
      go_enter Try.func51, Try.ntmps51
      go_wp2_with fail
      go_ret
      rw [E.out, decide_eq_false (by rw [← HN.out]; exact h12)]
      exact ⟨by first | rfl | simp, by (repeat (first | with_reducible (exact Since.refl _) | with_reducible assumption | with_reducible (refine Since.drew ?_) | with_reducible (refine Since.drewN ?_ _) | with_reducible (refine Since.alloc ?_ _) | (with_reducible (refine Since.setCell ?_ ?_ _); rotate_left; focus (first | (simp; done) | (simp; omega) | omega)) | (with_reducible (refine Since.trans ?_ (by with_reducible assumption)))))⟩
theorem OwnB.put {w : World} {base q n c : Nat} {L : List Int} (h : OwnB w base (.slice (some ⟨q, 0, none⟩) n c) L) (i : Nat) (x : Int) :
    OwnB (w.setCell ⟨q, i, none⟩ (.int .u8 x)) base (.slice (some ⟨q, 0, none⟩) n c) (L.set i x) := by
  have hn : n = L.length := by
    rcases h.2 with ⟨h0, _⟩ | ⟨g, cap, cur, h0, _⟩
    · cases h0
    · injection h0 with _ h1 _
  subst hn
  have h3 := (World.ownsRow.stored h i (.int .u8 x)).1
  have e : (cellsG byL L).set i (.int .u8 x) = cellsG byL (L.set i x) := by
    clear h h3
    induction L generalizing i with
    | nil => rfl
    | cons a r ih =>
      cases i with
      | zero => simp [cellsG, byL]
      | succ i =>
        have := ih i
        simp only [cellsG, List.flatMap_cons, byL, List.cons_append, List.nil_append, List.set_cons_succ] at this ⊢
        rw [this]
  rw [e] at h3
  unfold OwnB OwnG
  rw [List.length_set]
  exact h3
theorem set4 (L : List Int) (h : 12 ≤ L.length) : (((L.set 8 0).set 9 0).set 10 0).set 11 0 = L.take 8 ++ ([0, 0, 0, 0] ++ L.drop 12) := by
  rcases L with _ | ⟨a, _ | ⟨b, _ | ⟨c, _ | ⟨d, _ | ⟨e, _ | ⟨f, _ | ⟨g, _ | ⟨h, _ | ⟨i, _ | ⟨j, _ | ⟨k, _ | ⟨l, r⟩⟩⟩⟩⟩⟩⟩⟩⟩⟩⟩⟩ <;> first | rfl | (simp at h; omega) | (simp at h)
theorem OwnB.cell {w : World} {base q n c : Nat} {L : List Int} (h : OwnB w base (.slice (some ⟨q, 0, none⟩) n c) L) (j : Nat) (hj : j < L.length) : w.cell? ⟨q, j, none⟩ = some (.int .u8 (fnL L j)) ∧ w.frozen? ⟨q, j, none⟩ = false := by
  have hn : n = L.length := by
    rcases h.2 with ⟨h0, _⟩ | ⟨g, cap, cur, h0, _⟩
    · cases h0
    · injection h0 with _ h1 _
  obtain ⟨A, c', e, _, hr⟩ := OwnG.rd (by omega) byL_len h
  injection e with e1 e2 e3
  subst e1 hn
  obtain ⟨b, o, e4, _, hc⟩ := rdb_rd hr (by omega)
  injection e4 with e4
  injection e4 with e4 e5
  subst e4 e5
  have h1 := hc j hj
  rw [Nat.zero_add] at h1
  exact ⟨h1, World.ownsRow.frozenAt h j⟩
theorem own_off {w : World} {base q o n c : Nat} {L : List Int} (h : OwnB w base (.slice (some ⟨q, o, none⟩) n c) L) : o = 0 := by
  rcases h.2 with ⟨h0, _⟩ | ⟨g, cap, cur, h0, _⟩
  · cases h0
  · injection h0 with h0 _ _
    injection h0 with h0
    injection h0
theorem clear4 {w : World} {base q n c : Nat} {L : List Int} (h : OwnB w base (.slice (some ⟨q, 0, none⟩) n c) L) (hl : 12 ≤ L.length) : ∀ ty k, (Builtin.clear_ #[26] ty #[.slice (some ⟨q, 8, none⟩) 4 k]).run Try.prog w = .ok (.tuple #[]) (w.setCells q 8 (List.replicate 4 (.int .u8 0))) := fun ty k => by
  obtain ⟨i0, hi, hz0, _, _⟩ := info_parts Try.info_u8
  exact Lib.run_clear_slice w 26 5 ty (.int .u8 0) Try.underlying26 (fun w => by simp [zeroValue, typeInfo, hi, hz0]) rfl rfl q 8 4 k (by omega) (fun j hj => by rw [(OwnB.cell h (8 + j) (by omega)).1]; rfl) (fun j hj => (OwnB.cell h (8 + j) (by omega)).2)
theorem own_clear4 {w : World} {base q n c : Nat} {L : List Int} (h : OwnB w base (.slice (some ⟨q, 0, none⟩) n c) L) (hl : 12 ≤ L.length) : OwnB (w.setCells q 8 (List.replicate 4 (.int .u8 0))) base (.slice (some ⟨q, 0, none⟩) n c) (L.take 8 ++ ([0, 0, 0, 0] ++ L.drop 12)) := by
  have h4 := ((((OwnB.put h 8 0).put 9 0).put 10 0).put 11 0)
  rw [set4 L hl] at h4
  exact h4
set_option maxRecDepth 100000 in
set_option maxHeartbeats 4000000 in
theorem sf_unadj (T : Tb) (A : Option Addr) (n c : Nat) (w : World) (h : RdB w w.heap.size A T.data) (hn : n = T.data.length) (hx : n ≤ 140737488355328) :
    Calls Try.prog 47 #[.agg #[.string T.tag, .slice A n c]] w fun e w' => ∃ v, e = .returned v ∧ OwnB w' w.heap.size v (blank4 T) ∧ Since w w' := by
  have HC := Lib.hid (fun (w2 : World) (h2 : Since w w2) => bt_clone A n c T.data w2 (h.on h2) hn (by omega))
  have HH := Lib.hid (fun (w2 : World) => sf_has T A n c w2 hn (by simp only [maxLen]; omega))
  have EB := Lib.hid (show blank4 T = if adjT T then T.data.take 8 ++ ([0, 0, 0, 0] ++ T.data.drop 12) else T.data from rfl)
  have HN := Lib.hid hn
  have h12 : adjT T = true → 12 ≤ n := fun e => by
    unfold adjT at e
    rw [Bool.and_eq_true] at e
    rw [hn]; exact of_decide_eq_true e.2
  have H12 := Lib.hid h12
  obtain ⟨s, L⟩ := T
  simp only at HC HH EB HN h ⊢
  generalize adjT ⟨s, L⟩ = g at *
  generalize blank4 ⟨s, L⟩ = BL at *
  clear hn h h12
  cases g
  · go_enter Try.func47, Try.ntmps47
    go_wp2_with (first | (go_at_call 70; (with_reducible refine (HC.out _ (by (repeat (first | with_reducible (exact Since.refl _) | with_reducible assumption | with_reducible (refine Since.drew ?_) | with_reducible (refine Since.drewN ?_ _) | with_reducible (refine Since.alloc ?_ _) | (with_reducible (refine Since.setCell ?_ ?_ _); rotate_left; focus (first | (simp; done) | (simp; omega) | omega)) | (with_reducible (refine Since.trans ?_ (by with_reducible assumption))))))).mono ?_); rintro e w2 ⟨v2, rfl, hO2, hS2⟩; obtain ⟨q1, q2, q3⟩ := two_tb hS2) | (go_at_call 51; (with_reducible refine (HH.out _).mono ?_); rintro e w3 ⟨rfl, hS3⟩))
    go_ret
    refine ⟨_, rfl, ?_, by (repeat (first | with_reducible (exact Since.refl _) | with_reducible assumption | with_reducible (refine Since.drew ?_) | with_reducible (refine Since.drewN ?_ _) | with_reducible (refine Since.alloc ?_ _) | (with_reducible (refine Since.setCell ?_ ?_ _); rotate_left; focus (first | (simp; done) | (simp; omega) | omega)) | (with_reducible (refine Since.trans ?_ (by with_reducible assumption)))))⟩
    rw [EB.out, if_neg (by simp)]
    exact (hO2.since hS3).low (by simp)
  · have hn12 := H12.out rfl
    have hnI : (12 : Int) ≤ (n : Int) := by omega
    go_enter Try.func47, Try.ntmps47
    go_wp2_with (first | (go_at_call 70; (with_reducible refine (HC.out _ (by (repeat (first | with_reducible (exact Since.refl _) | with_reducible assumption | with_reducible (refine Since.drew ?_) | with_reducible (refine Since.drewN ?_ _) | with_reducible (refine Since.alloc ?_ _) | (with_reducible (refine Since.setCell ?_ ?_ _); rotate_left; focus (first | (simp; done) | (simp; omega) | omega)) | (with_reducible (refine Since.trans ?_ (by with_reducible assumption))))))).mono ?_); rintro e w2 ⟨v2, rfl, hO2, hS2⟩; obtain ⟨q1, q2, q3⟩ := two_tb hS2; obtain ⟨A2, c2, rfl, hc2, hr2⟩ := hO2.rd (by omega) byL_len; rw [← HN.out] at hO2 hc2 ⊢; obtain ⟨g2, o2, rfl, hg2, _⟩ := hr2 (by rw [← HN.out]; omega); have ho : o2 = 0 := own_off hO2; subst ho; clear hr2) | (go_at_call 51; (with_reducible refine (HH.out _).mono ?_); rintro e w3 ⟨rfl, hS3⟩; have hO3 := hO2.since hS3; have hcl := clear4 hO3 (by rw [← HN.out]; omega) ; have hc12 : (12 : Int) ≤ (c2 : Int) := (by omega); have hc8 : ¬ c2 = 8 := (by omega)))
    go_ret
    have hgw : w.heap.size ≤ g2 := by have := (hO3.lt (g := g2) rfl).1; simp at this; omega
    have hS4 : Since w w3 := by (repeat (first | with_reducible (exact Since.refl _) | with_reducible assumption | with_reducible (refine Since.drew ?_) | with_reducible (refine Since.drewN ?_ _) | with_reducible (refine Since.alloc ?_ _) | (with_reducible (refine Since.setCell ?_ ?_ _); rotate_left; focus (first | (simp; done) | (simp; omega) | omega)) | (with_reducible (refine Since.trans ?_ (by with_reducible assumption)))))
    refine ⟨_, rfl, ?_, (((hS4.setCell hgw _).setCell hgw _).setCell hgw _).setCell hgw _⟩
    rw [EB.out, if_pos (by trivial)]
    exact (own_clear4 hO3 (by rw [← HN.out]; omega)).low (by simp)
set_option maxRecDepth 100000 in
set_option maxHeartbeats 4000000 in
theorem rf_blank (T : Tb) (A : Option Addr) (n c : Nat) (w : World) (h : RdB w w.heap.size A T.data) (hn : n = T.data.length) (hx : n ≤ 140737488355328) :
    Calls Try.prog 25 #[.agg #[.string T.tag, .slice A n c]] w fun e w' => ∃ v, e = .returned v ∧ OwnB w' w.heap.size v (blank4 T) ∧ Since w w' := by
  have HC := Lib.hid (fun (w2 : World) (h2 : Since w w2) => copy_l A n c T.data w2 hn (h.on h2) (by omega))
  have hnI : (n : Int) ≤ 140737488355328 := by omega
  have EB := Lib.hid (show blank4 T = if adjT T then T.data.take 8 ++ ([0, 0, 0, 0] ++ T.data.drop 12) else T.data from rfl)
  have HN := Lib.hid hn
  obtain ⟨s, L⟩ := T
  have EA : adjT ⟨s, L⟩ = ((s.toList == [104, 101, 97, 100]) && decide (12 ≤ L.length)) := rfl
  simp only at HC EB HN h ⊢
  generalize blank4 ⟨s, L⟩ = BL at *
  clear hn h
  by_cases hb : s.toList = [104, 101, 97, 100]
  · have hb2 : (s.toList == [104, 101, 97, 100]) = true := by simpa using hb
    by_cases h12 : 12 ≤ n
    · have hnI12 : (12 : Int) ≤ (n : Int) := by omega
      have d1 : decide ((12 : Int) ≤ (n : Int)) = true := by simpa using hnI12
      have EB2 := Lib.hid (show BL = L.take 8 ++ ([0, 0, 0, 0] ++ L.drop 12) by rw [EB.out, EA, hb2, decide_eq_true (by rw [← HN.out]; exact h12)]; rfl)
      clear EA
      go_enter Try.func25, Try.ntmps25
      go_wp2_with (go_at_call 28; (with_reducible refine (HC.out _ (by (repeat (first | with_reducible (exact Since.refl _) | with_reducible assumption | with_reducible (refine Since.drew ?_) | with_reducible (refine Since.drewN ?_ _) | with_reducible (refine Since.alloc ?_ _) | (with_reducible (refine Since.setCell ?_ ?_ _); rotate_left; focus (first | (simp; done) | (simp; omega) | omega)) | (with_reducible (refine Since.trans ?_ (by with_reducible assumption))))))).mono ?_); rintro e w2 ⟨g2, c2, rfl, hc2, hg2, hO2, _, hS2⟩; obtain ⟨q1, q2, q3⟩ := two_tb hS2)
      have hS2w : Since w w2 := by (repeat (first | with_reducible (exact Since.refl _) | with_reducible assumption | with_reducible (refine Since.drew ?_) | with_reducible (refine Since.drewN ?_ _) | with_reducible (refine Since.alloc ?_ _) | (with_reducible (refine Since.setCell ?_ ?_ _); rotate_left; focus (first | (simp; done) | (simp; omega) | omega)) | (with_reducible (refine Since.trans ?_ (by with_reducible assumption)))))
      have hg2w : w.heap.size ≤ g2 := by simp at hg2; omega
      have hO2 := hO2.low (base' := w.heap.size) (by simp)
      go_loopw [4] (fun y wr => ∃ (j : Nat) (M : List Int), 8 ≤ j ∧ j ≤ 12 ∧ y = .int .i64 (j : Int) ∧ OwnB wr w.heap.size (.slice (some ⟨g2, 0, none⟩) n c2) M ∧ M.length = n ∧ Since w wr ∧ Hid (M = if j = 8 then L else if j = 9 then L.set 8 0 else if j = 10 then (L.set 8 0).set 9 0 else if j = 11 then ((L.set 8 0).set 9 0).set 10 0 else (((L.set 8 0).set 9 0).set 10 0).set 11 0)) (fun y _ => 12 - (intOf y).toNat)
      case atStart => exact ⟨8, L, by omega, by omega, rfl, hO2, HN.out.symm, hS2w, Lib.hid (by simp)⟩
      case round =>
        obtain ⟨j, M, hj8, hj12, rfl, hO, hM, hS, HM⟩ := hrel
        clear q1 q2 q3 hO2 hS2 hS2w
        by_cases hj : j < 12
        · have hj' : (j : Int) < 12 := by omega
          have hjn : (j : Int) < (n : Int) := by omega
          obtain ⟨k1, k2⟩ := OwnB.cell hO j (by omega)
          have hgz := (hO.lt (g := g2) rfl).2
          have HM2 := Lib.hid (show M.set j 0 = if j + 1 = 8 then L else if j + 1 = 9 then L.set 8 0 else if j + 1 = 10 then (L.set 8 0).set 9 0 else if j + 1 = 11 then ((L.set 8 0).set 9 0).set 10 0 else (((L.set 8 0).set 9 0).set 10 0).set 11 0 by
            have h4 : j = 8 ∨ j = 9 ∨ j = 10 ∨ j = 11 := by omega
            rw [HM.out]
            rcases h4 with rfl | rfl | rfl | rfl <;> rfl)
          go_wp2_with fail
          go_roundw
          case rel => first | exact ⟨j + 1, M.set j 0, by omega, by omega, by first | rfl | go_num | simp, OwnB.put hO j 0, by rw [List.length_set]; exact hM, hS.setCell hg2w _, HM2⟩ | ((repeat apply Exists.intro); refine ⟨?_, rfl⟩; exact ⟨j + 1, M.set j 0, by omega, by omega, by first | rfl | go_num | simp, OwnB.put hO j 0, by rw [List.length_set]; exact hM, hS.setCell hg2w _, HM2⟩)
          case measure => simp [intOf]; omega
        · obtain rfl : j = 12 := by omega
          have HM3 := Lib.hid (show M = BL by rw [HM.out, EB2.out, ← set4 L (by rw [← HN.out]; exact h12)]; rfl)
          go_wp2_with fail
          go_ret
          exact ⟨_, rfl, by rw [← HM3.out]; exact hO, hS⟩
    · have d1 : decide ((12 : Int) ≤ (n : Int)) = false := by simp; omega
      have d2 : ¬ (12 : Int) ≤ (n : Int) := by omega
      have EB2 := Lib.hid (show BL = L by rw [EB.out, EA, decide_eq_false (by rw [← HN.out]; exact h12)]; simp)
      clear EA
      go_enter Try.func25, Try.ntmps25
      go_wp2_with (go_at_call 28; (with_reducible refine (HC.out _ (by (repeat (first | with_reducible (exact Since.refl _) | with_reducible assumption | with_reducible (refine Since.drew ?_) | with_reducible (refine Since.drewN ?_ _) | with_reducible (refine Since.alloc ?_ _) | (with_reducible (refine Since.setCell ?_ ?_ _); rotate_left; focus (first | (simp; done) | (simp; omega) | omega)) | (with_reducible (refine Since.trans ?_ (by with_reducible assumption))))))).mono ?_); rintro e w2 ⟨g2, c2, rfl, hc2, hg2, hO2, _, hS2⟩; obtain ⟨q1, q2, q3⟩ := two_tb hS2)
      go_ret
      exact ⟨_, rfl, by rw [EB2.out]; exact hO2.low (by simp), by (repeat (first | with_reducible (exact Since.refl _) | with_reducible assumption | with_reducible (refine Since.drew ?_) | with_reducible (refine Since.drewN ?_ _) | with_reducible (refine Since.alloc ?_ _) | (with_reducible (refine Since.setCell ?_ ?_ _); rotate_left; focus (first | (simp; done) | (simp; omega) | omega)) | (with_reducible (refine Since.trans ?_ (by with_reducible assumption)))))⟩
  · have hb2 : (s.toList == [104, 101, 97, 100]) = false := by simpa using hb
    have EB2 := Lib.hid (show BL = L by rw [EB.out, EA, hb2]; simp)
    clear EA
    go_enter Try.func25, Try.ntmps25
    go_wp2_with (go_at_call 28; (with_reducible refine (HC.out _ (by (repeat (first | with_reducible (exact Since.refl _) | with_reducible assumption | with_reducible (refine Since.drew ?_) | with_reducible (refine Since.drewN ?_ _) | with_reducible (refine Since.alloc ?_ _) | (with_reducible (refine Since.setCell ?_ ?_ _); rotate_left; focus (first | (simp; done) | (simp; omega) | omega)) | (with_reducible (refine Since.trans ?_ (by with_reducible assumption))))))).mono ?_); rintro e w2 ⟨g2, c2, rfl, hc2, hg2, hO2, _, hS2⟩; obtain ⟨q1, q2, q3⟩ := two_tb hS2)
    go_ret
    exact ⟨_, rfl, by rw [EB2.out]; exact hO2.low (by simp), by (repeat (first | with_reducible (exact Since.refl _) | with_reducible assumption | with_reducible (refine Since.drew ?_) | with_reducible (refine Since.drewN ?_ _) | with_reducible (refine Since.alloc ?_ _) | (with_reducible (refine Since.setCell ?_ ?_ _); rotate_left; focus (first | (simp; done) | (simp; omega) | omega)) | (with_reducible (refine Since.trans ?_ (by with_reducible assumption)))))⟩
end Go.Proofs.Ytpplnapfpoloiaa

/-
  Layer 4: tags, lengths, and which tables are right, walked.
-/
namespace Go.Proofs.Ytpplnapfpoloiaa
open Go.RowKit Go.ChangeShapes Go.WideShapes Go.Deep
set_option linter.unusedVariables false
set_option linter.unusedSimpArgs false

theorem nat_andNot3 (a : Nat) (h : a < 2 ^ 63) : a &&& (2 ^ 64 - 1 - 3) = a / 4 * 4 := by
  apply Nat.eq_of_testBit_eq
  intro i
  have e : 2 ^ 64 - 1 - 3 = (2 ^ 62 - 1) * 2 ^ 2 := by decide
  have e2 : a / 4 * 4 = (a / 2 ^ 2) * 2 ^ 2 := by rfl
  rw [Nat.testBit_and, e, e2, Nat.testBit_mul_two_pow, Nat.testBit_mul_two_pow, Nat.testBit_two_pow_sub_one]
  by_cases h2 : 2 ≤ i
  · have h3 : (a / 2 ^ 2).testBit (i - 2) = a.testBit i := by
      rw [Nat.testBit_div_two_pow]; congr 1; omega
    by_cases h4 : i - 2 < 62
    · simp [h2, h3, h4]
    · have : a.testBit i = false := Nat.testBit_lt_two_pow (Nat.lt_of_lt_of_le h (Nat.pow_le_pow_right (by omega) (by omega)))
      simp [h2, h3, this]
  · simp [h2]
theorem andNot3 (a : Nat) (h : a < 4611686018427387904) : bits .andNot .i64 (a : Int) 3 = ((a / 4 * 4 : Nat) : Int) := by
  show IntKind.i64.wrap ((BitVec.ofInt 64 (a : Int) &&& ~~~ BitVec.ofInt 64 3).toNat : Int) = _
  have e3 : (~~~ BitVec.ofInt 64 3).toNat = 2 ^ 64 - 1 - 3 := by decide
  rw [BitVec.ofInt_natCast, BitVec.toNat_and, e3, BitVec.toNat_ofNat, Nat.mod_eq_of_lt (by omega), nat_andNot3 a (by omega), IntKind.wrap_i64]
  omega
set_option maxHeartbeats 4000000 in
theorem sf_padded (n : Nat) (w : World) (hn : n ≤ 140737488355328) : Calls Try.prog 52 #[.int .i64 (n : Int)] w fun e w' => e = .returned (.int .i64 (pad4 n : Int)) ∧ w' = w := by
  have h := andNot3 (n + 3) (by omega)
  have u1 : IntKind.i64.wrap ((n : Int) + 3) = ((n + 3 : Nat) : Int) := by rw [IntKind.wrap_i64]; omega
  have E := Lib.hid (show ((n + 3) / 4 * 4 : Nat) = pad4 n from rfl)
  have hnI : (n : Int) ≤ 140737488355328 := by omega
  have h2 : bits .andNot .i64 ((n : Int) + 3) 3 = (((n + 3) / 4 * 4 : Nat) : Int) := by rw [← h]; rfl
  generalize (n + 3) / 4 * 4 = p at *
  clear h
  go_enter Try.func52, Try.ntmps52
  go_wp2_with fail
  go_ret
  rw [← E.out]
  exact ⟨by first | rfl | simp, rfl⟩
instance (s : ByteArray) : Decidable (TagC s) := by unfold TagC; infer_instance
def TagG (s : ByteArray) : Bool := decide (TagC s)
theorem tagG_bad {s : ByteArray} {j : Nat} (h : j < s.size) (hb : (s[j].toNat : Int) < 32 ∨ 126 < (s[j].toNat : Int)) : TagG s = false := decide_eq_false fun e => by
  have := e.2 j h; omega
theorem tagG_size {s : ByteArray} (h : s.size ≠ 4) : TagG s = false := decide_eq_false fun e => h e.1
theorem tagG_ok {s : ByteArray} (h : s.size = 4) (hb : ∀ (j : Nat) (h : j < s.size), 32 ≤ (s[j].toNat : Int) ∧ (s[j].toNat : Int) ≤ 126) : TagG s = true := decide_eq_true ⟨h, hb⟩
set_option maxHeartbeats 4000000 in
theorem rf_tagged (s : ByteArray) (w : World) (hs : s.size ≤ maxLen) : Calls Try.prog 54 #[.string s] w fun e w' => e = .returned (.bool (TagG s)) ∧ w' = w := by
  have hsI : (s.size : Int) ≤ 9223372036854775807 := by simp only [maxLen] at hs; omega
  by_cases h4 : s.size = 4
  · have d0 : ((s.size : Int) == 4) = true := by simp; omega
    have d1 : ((s.size : Int) != 4) = false := by simp; omega
    have H4 := Lib.hid h4
    clear h4
    go_enter Try.func54, Try.ntmps54
    go_wp2_with fail
    go_loopw [3] (fun y wr => ∃ (j : Nat), j ≤ 4 ∧ y = .int .i64 (j : Int) ∧ Hid (wr = w) ∧ Hid (∀ (i : Nat) (h : i < s.size), i < j → 32 ≤ (s[i].toNat : Int) ∧ (s[i].toNat : Int) ≤ 126)) (fun y _ => 4 - (intOf y).toNat)
    case atStart => exact ⟨0, by omega, rfl, Lib.hid rfl, Lib.hid (fun i h h2 => absurd h2 (by omega))⟩
    case round =>
      obtain ⟨j, hj, rfl, hw, HI⟩ := hrel
      by_cases hj4 : j < 4
      · have hj4' : (j : Int) < 4 := by omega
        have hjs : j < s.size := by rw [H4.out]; exact hj4
        have HB := Lib.hid (fun (hb : (s[j].toNat : Int) < 32 ∨ 126 < (s[j].toNat : Int)) => tagG_bad hjs hb)
        have HN := Lib.hid (show 32 ≤ (s[j].toNat : Int) ∧ (s[j].toNat : Int) ≤ 126 → ∀ (i : Nat) (h : i < s.size), i < j + 1 → 32 ≤ (s[i].toNat : Int) ∧ (s[i].toNat : Int) ≤ 126 from fun hb i h h2 => by
          by_cases e : i = j
          · subst e; exact hb
          · exact HI.out i h (by omega))
        by_cases t1 : (s[j].toNat : Int) < 32
        · have d2 : decide ((s[j].toNat : Int) < 32) = true := by simpa using t1
          have E := Lib.hid (HB.out (.inl t1))
          go_wp2_with fail
          go_ret
          rw [E.out]
          exact ⟨by first | rfl | simp, hw.out⟩
        · have d2 : decide ((s[j].toNat : Int) < 32) = false := by simpa using t1
          by_cases t2 : 126 < (s[j].toNat : Int)
          · have d3 : decide (126 < (s[j].toNat : Int)) = true := by simpa using t2
            have E := Lib.hid (HB.out (.inr t2))
            go_wp2_with fail
            go_ret
            rw [E.out]
            exact ⟨by first | rfl | simp, hw.out⟩
          · have d3 : decide (126 < (s[j].toNat : Int)) = false := by simpa using t2
            have HN2 := Lib.hid (HN.out (by omega))
            go_wp2_with fail
            go_roundw
            case rel => first | exact ⟨j + 1, by omega, by first | rfl | go_num | simp, hw, HN2⟩ | ((repeat apply Exists.intro); refine ⟨?_, rfl⟩; exact ⟨j + 1, by omega, by first | rfl | go_num | simp, hw, HN2⟩)
            case measure => simp [intOf]; omega
      · have hj4' : ¬ (j : Int) < 4 := by omega
        have E := Lib.hid (tagG_ok H4.out (fun i h => HI.out i h (by have := H4.out; omega)))
        go_wp2_with fail
        go_ret
        rw [E.out]
        exact ⟨by first | rfl | simp, hw.out⟩
  · have d0 : ((s.size : Int) == 4) = false := by simp; omega
    have d1 : ((s.size : Int) != 4) = true := by simp; omega
    have E := Lib.hid (tagG_size h4)
    clear h4
    go_enter Try.func54, Try.ntmps54
    go_wp2_with fail
    go_ret
    rw [E.out]
    exact ⟨by first | rfl | simp, rfl⟩
set_option maxHeartbeats 4000000 in
theorem sf_printable (s : ByteArray) (w : World) (hs : s.size ≤ maxLen) : Calls Try.prog 56 #[.string s] w fun e w' => e = .returned (.bool (TagG s)) ∧ w' = w := by
  have hsI : (s.size : Int) ≤ 9223372036854775807 := by simp only [maxLen] at hs; omega
  obtain ⟨n, hn⟩ : ∃ n, n = s.size := ⟨_, rfl⟩
  have HS := Lib.hid hn
  clear hn
  go_enter Try.func56, Try.ntmps56
  go_wp2_with fail
  go_loopw [6] (fun y wr => ∃ (j : Nat), j ≤ s.size ∧ y = .int .i64 (j : Int) ∧ Hid (wr = w) ∧ Hid (∀ (i : Nat) (h : i < s.size), i < j → 32 ≤ (s[i].toNat : Int) ∧ (s[i].toNat : Int) ≤ 126)) (fun y _ => s.size - (intOf y).toNat)
  case atStart => exact ⟨0, by omega, rfl, Lib.hid rfl, Lib.hid (fun i h h2 => absurd h2 (by omega))⟩
  case round =>
    obtain ⟨j, hj, rfl, hw, HI⟩ := hrel
    by_cases hjs : j < s.size
    · have hjs' : (j : Int) < (s.size : Int) := by omega
      have HB := Lib.hid (fun (hb : (s[j].toNat : Int) < 32 ∨ 126 < (s[j].toNat : Int)) => tagG_bad hjs hb)
      have HN := Lib.hid (show 32 ≤ (s[j].toNat : Int) ∧ (s[j].toNat : Int) ≤ 126 → ∀ (i : Nat) (h : i < s.size), i < j + 1 → 32 ≤ (s[i].toNat : Int) ∧ (s[i].toNat : Int) ≤ 126 from fun hb i h h2 => by
        by_cases e : i = j
        · subst e; exact hb
        · exact HI.out i h (by omega))
      by_cases t1 : (s[j].toNat : Int) < 32
      · have d2 : decide ((s[j].toNat : Int) < 32) = true := by simpa using t1
        have E := Lib.hid (HB.out (.inl t1))
        go_wp2_with fail
        go_ret
        rw [E.out]
        exact ⟨by first | rfl | simp, hw.out⟩
      · have d2 : decide ((s[j].toNat : Int) < 32) = false := by simpa using t1
        by_cases t2 : 126 < (s[j].toNat : Int)
        · have d3 : decide (126 < (s[j].toNat : Int)) = true := by simpa using t2
          have E := Lib.hid (HB.out (.inr t2))
          go_wp2_with fail
          go_ret
          rw [E.out]
          exact ⟨by first | rfl | simp, hw.out⟩
        · have d3 : decide (126 < (s[j].toNat : Int)) = false := by simpa using t2
          have HN2 := Lib.hid (HN.out (by omega))
          go_wp2_with fail
          go_roundw
          case rel => first | exact ⟨j + 1, by omega, by first | rfl | go_num | simp, hw, HN2⟩ | ((repeat apply Exists.intro); refine ⟨?_, rfl⟩; exact ⟨j + 1, by omega, by first | rfl | go_num | simp, hw, HN2⟩)
          case measure => simp [intOf]; omega
    · have hjs' : ¬ (j : Int) < (s.size : Int) := by omega
      by_cases h4 : s.size = 4
      · have d0 : ((s.size : Int) == 4) = true := by simp; omega
        have E := Lib.hid (tagG_ok h4 (fun i h => HI.out i h (by omega)))
        clear h4
        go_wp2_with fail
        go_ret
        rw [E.out]
        exact ⟨by first | rfl | simp, hw.out⟩
      · have d0 : ((s.size : Int) == 4) = false := by simp; omega
        have E := Lib.hid (tagG_size h4)
        clear h4
        go_wp2_with fail
        go_ret
        rw [E.out]
        exact ⟨by first | rfl | simp, hw.out⟩
end Go.Proofs.Ytpplnapfpoloiaa

/-
  Layer 4: how long a font is, and which tables are right, walked.
-/
namespace Go.Proofs.Ytpplnapfpoloiaa
open Go.RowKit Go.ChangeShapes Go.WideShapes Go.Deep
set_option linter.unusedVariables false
set_option linter.unusedSimpArgs false

/-- Tables that no walk need fear. -/
def FewT (TT : List Tb) : Prop := TT.length ≤ 100000 ∧ ∀ T, T ∈ TT → T.data.length ≤ 1000000 ∧ T.tag.size ≤ maxLen
theorem end4_few : ∀ (TT : List Tb) (a : Nat), (∀ T, T ∈ TT → T.data.length ≤ 1000000) → end4 a TT ≤ a + TT.length * 1000003 := by
  intro TT a h
  unfold end4
  induction TT with
  | nil => simp
  | cons T r ih =>
    have h1 := ih (fun U hU => h U (by simp [hU]))
    have h2 := h T (by simp)
    have h3 := pad4_le T.data.length
    rw [List.map_cons, List.sum_cons, List.length_cons, Nat.succ_mul]
    omega
set_option maxRecDepth 100000 in
set_option maxHeartbeats 8000000 in
theorem sf_size (A : Option Addr) (N c : Nat) (TT : List Tb) (w : World) (h : RdTL w w.heap.size A TT) (hN : N = TT.length) (hf : FewT TT) :
    Calls Try.prog 55 #[.slice A N c] w fun e w' => e = .returned (.int .i64 (size4 TT : Int)) ∧ Since w w' := by
  obtain ⟨hf1, hf2⟩ := hf
  have HN := Lib.hid hN
  have HF := Lib.hid hf2
  have hNn : N ≤ 100000 := by omega
  have hNI : (N : Int) ≤ 100000 := by omega
  have HE := Lib.hid (fun j => end4_few (TT.take j) (12 + 16 * N) (fun T hT => (hf2 T (List.mem_of_mem_take hT)).1))
  clear hN hf1 hf2
  have m1 : IntKind.i64.wrap (16 * (N : Int)) = 16 * (N : Int) := by rw [IntKind.wrap_i64]; omega
  have m2 : IntKind.i64.wrap (12 + 16 * (N : Int)) = 12 + 16 * (N : Int) := by rw [IntKind.wrap_i64]; omega
  go_enter Try.func55, Try.ntmps55
  go_wp2_with fail
  go_loopw [3, 12] (fun v y wr => ∃ (j : Nat), j ≤ N ∧ y = .int .i64 (j : Int) ∧ v = .int .i64 (end4 (12 + 16 * N) (TT.take j) : Int) ∧ Since w wr) (fun _ y _ => N - (intOf y).toNat)
  case atStart => exact ⟨0, by omega, rfl, by simp [end4], Since.refl _⟩
  case round =>
    obtain ⟨j, hj, rfl, rfl, hS⟩ := hrel
    have hE := HE.out j
    have hlj : (TT.take j).length ≤ j := List.length_take_le _ _
    have hE2 : (end4 (12 + 16 * N) (TT.take j) : Int) ≤ 200000000000 := by
      have : (TT.take j).length * 1000003 ≤ 100000 * 1000003 := Nat.mul_le_mul_right _ (by omega)
      omega
    clear m1 m2 hE
    by_cases hjn : j < N
    · have hjn' : (j : Int) < N := by omega
      have hjL : j < TT.length := by rw [← HN.out]; exact hjn
      have hT : TT[j]? = some TT[j] := List.getElem?_eq_getElem hjL
      obtain ⟨hml, _⟩ := HF.out _ (List.mem_of_getElem? hT)
      have HTK := Lib.hid (show end4 (12 + 16 * N) (TT.take (j + 1)) = end4 (12 + 16 * N) (TT.take j) + pad4 TT[j].data.length by rw [List.take_succ_eq_append_getElem hjL, end4_snoc])
      obtain ⟨b, o, A', c', rfl, hb, hc1, hc2, _⟩ := h.row hT
      generalize TT[j] = T at *
      obtain ⟨s, L⟩ := T
      simp only at hml hc1 hc2 HTK
      have c1 := (hS.1 _ _ hb).trans hc1
      have c2 := (hS.1 _ _ hb).trans hc2
      have hbw := hS.2.2.1 _ hb
      obtain ⟨n, hn0⟩ : ∃ n, n = L.length := ⟨_, rfl⟩
      rw [← hn0] at c2 hml HTK
      have HP := Lib.hid (fun w2 => sf_padded n w2 (by omega))
      have hp := pad4_le n
      generalize pad4 n = p at *
      have hpI : (p : Int) ≤ 1000003 := by omega
      generalize end4 (12 + 16 * N) (TT.take j) = x at *
      clear hT h hc1 hc2 hjL hn0 hp
      go_wp2_with (go_at_call 52; (with_reducible refine (HP.out _).mono ?_); rintro e w3 ⟨rfl, hw3⟩; have hw4 := hw3.symm; subst hw4; clear hw3)
      go_roundw
      case rel => first | exact ⟨j + 1, by omega, by first | rfl | go_num | simp, by rw [HTK.out]; first | rfl | go_num | simp, by (repeat (first | with_reducible (exact Since.refl _) | with_reducible assumption | with_reducible (refine Since.drew ?_) | with_reducible (refine Since.drewN ?_ _) | with_reducible (refine Since.alloc ?_ _) | (with_reducible (refine Since.setCell ?_ ?_ _); rotate_left; focus (first | (simp; done) | (simp; omega) | omega)) | (with_reducible (refine Since.trans ?_ (by with_reducible assumption)))))⟩ | ((repeat apply Exists.intro); refine ⟨?_, rfl⟩; exact ⟨j + 1, by omega, by first | rfl | go_num | simp, by rw [HTK.out]; first | rfl | go_num | simp, by (repeat (first | with_reducible (exact Since.refl _) | with_reducible assumption | with_reducible (refine Since.drew ?_) | with_reducible (refine Since.drewN ?_ _) | with_reducible (refine Since.alloc ?_ _) | (with_reducible (refine Since.setCell ?_ ?_ _); rotate_left; focus (first | (simp; done) | (simp; omega) | omega)) | (with_reducible (refine Since.trans ?_ (by with_reducible assumption)))))⟩)
      case measure => simp [intOf]; omega
    · obtain rfl : N = j := by omega
      have hjn' : ¬ (N : Int) < (N : Int) := by omega
      have e : TT.take N = TT := by rw [HN.out]; exact List.take_length
      have E := Lib.hid (show end4 (12 + 16 * N) (TT.take N) = size4 TT by rw [e, HN.out]; rfl)
      generalize end4 (12 + 16 * N) (TT.take N) = x at *
      clear e h
      go_wp2_with fail
      go_ret
      rw [← E.out]
      exact ⟨rfl, hS⟩
noncomputable def RightG (TT : List Tb) : Bool := @decide (right4 TT) (Classical.propDecidable _)
theorem rightG_iff {TT : List Tb} : RightG TT = true ↔ right4 TT := by unfold RightG; exact @decide_eq_true_iff _ (Classical.propDecidable _)
theorem rightG_no {TT : List Tb} (h : ¬ right4 TT) : RightG TT = false := by
  cases e : RightG TT
  · rfl
  · exact absurd (rightG_iff.1 e) h
theorem rightG_yes {TT : List Tb} (h : right4 TT) : RightG TT = true := rightG_iff.2 h
/-- The tables ahead of j are right one by one. -/
def UpTo (TT : List Tb) (j : Nat) : Prop := ∀ (i : Nat) T, i < j → TT[i]? = some T → TagC T.tag ∧ ∀ U, 0 < i → TT[i - 1]? = some U → Op.bytesLess U.tag.toList T.tag.toList = true
theorem upTo_all {TT : List Tb} (h : UpTo TT TT.length) (h1 : 1 ≤ TT.length) (h2 : TT.length ≤ 64) (h3 : size4 TT ≤ 1048576) : right4 TT := by
  have hlt : ∀ (j : Nat) T, TT[j]? = some T → j < TT.length := fun j T hj => by
    rcases Nat.lt_or_ge j TT.length with h | h
    · exact h
    · rw [List.getElem?_eq_none h] at hj; cases hj
  exact ⟨h1, h2, h3, fun j T hj => (h j T (hlt j T hj) hj).1, fun j T U hj hU => (h (j + 1) U (hlt _ _ hU) hU).2 T (by omega) (by rw [Nat.add_sub_cancel]; exact hj)⟩
theorem upTo_next {TT : List Tb} {j : Nat} {T : Tb} (h : UpTo TT j) (hj : TT[j]? = some T) (hT : TagG T.tag = true) (hl : ∀ U, 0 < j → TT[j - 1]? = some U → Op.bytesLess U.tag.toList T.tag.toList = true) : UpTo TT (j + 1) := fun i U hi hU => by
  by_cases e : i = j
  · subst e
    rw [hj] at hU
    injection hU with hU
    subst hU
    exact ⟨of_decide_eq_true hT, hl⟩
  · exact h i U (by omega) hU
theorem right_tag {TT : List Tb} {j : Nat} {T : Tb} (hj : TT[j]? = some T) (hT : TagG T.tag = false) : RightG TT = false := rightG_no fun h => by
  have := h.2.2.2.1 j T hj
  unfold TagG at hT
  rw [decide_eq_true this] at hT; cases hT
theorem right_less {TT : List Tb} {j : Nat} {T U : Tb} (hj : TT[j]? = some T) (h0 : 0 < j) (hU : TT[j - 1]? = some U) (hl : Op.bytesLess U.tag.toList T.tag.toList = false) : RightG TT = false := rightG_no fun h => by
  have := h.2.2.2.2 (j - 1) U T hU (by rw [Nat.sub_add_cancel h0]; exact hj)
  rw [hl] at this; cases this
set_option maxRecDepth 100000 in
set_option maxHeartbeats 8000000 in
theorem sf_right (A : Option Addr) (N c : Nat) (TT : List Tb) (w : World) (h : RdTL w w.heap.size A TT) (hN : N = TT.length) (hf : FewT TT) :
    Calls Try.prog 20 #[.slice A N c] w fun e w' => e = .returned (.bool (RightG TT)) ∧ Since w w' := by
  have HSZ := Lib.hid (fun (w2 : World) (h2 : Since w w2) => sf_size A N c TT w2 (h.on h2) hN hf)
  obtain ⟨hf1, hf2⟩ := hf
  have HN := Lib.hid hN
  have HF := Lib.hid hf2
  have hNn : N ≤ 100000 := by omega
  have hNI : (N : Int) ≤ 100000 := by omega
  clear hN hf1 hf2
  by_cases h1 : N < 1
  · have E := Lib.hid (rightG_no (TT := TT) fun e => by have := e.1; have := HN.out; omega)
    have d1 : (N : Int) < 1 := by omega
    go_enter Try.func20, Try.ntmps20
    go_wp2_with fail
    go_ret
    rw [E.out]
    exact ⟨by first | rfl | simp, Since.refl _⟩
  have d1 : ¬ (N : Int) < 1 := by omega
  by_cases h2 : 64 < N
  · have E := Lib.hid (rightG_no (TT := TT) fun e => by have := e.2.1; have := HN.out; omega)
    have d2 : (64 : Int) < (N : Int) := by omega
    go_enter Try.func20, Try.ntmps20
    go_wp2_with fail
    go_ret
    rw [E.out]
    exact ⟨by first | rfl | simp, Since.refl _⟩
  have d2 : ¬ (64 : Int) < (N : Int) := by omega
  by_cases h3 : 1048576 < size4 TT
  · have E := Lib.hid (rightG_no (TT := TT) fun e => by have := e.2.2.1; omega)
    have d3 : (1048576 : Int) < (size4 TT : Int) := by omega
    generalize size4 TT = z at *
    go_enter Try.func20, Try.ntmps20
    go_wp2_with (go_at_call 55; (with_reducible refine (HSZ.out _ (Since.refl _)).mono ?_); rintro e w2 ⟨rfl, hS2⟩)
    go_ret
    rw [E.out]
    exact ⟨by first | rfl | simp, hS2⟩
  have d3 : ¬ (1048576 : Int) < (size4 TT : Int) := by omega
  have HOK := Lib.hid (fun (hu : UpTo TT TT.length) => rightG_yes (upTo_all hu (by have := HN.out; omega) (by have := HN.out; omega) (by omega)))
  generalize size4 TT = z at *
  clear h1 h2 h3
  go_enter Try.func20, Try.ntmps20
  go_wp2_with (go_at_call 55; (with_reducible refine (HSZ.out _ (Since.refl _)).mono ?_); rintro e w2 ⟨rfl, hS2⟩)
  go_loopw [20] (fun y wr => ∃ (j : Nat), j ≤ N ∧ y = .int .i64 (j : Int) ∧ Hid (UpTo TT j) ∧ Since w wr) (fun y _ => N - (intOf y).toNat)
  case atStart => exact ⟨0, by omega, rfl, Lib.hid (fun i T hi => absurd hi (by omega)), hS2⟩
  case round =>
    obtain ⟨j, hj, rfl, HU, hS⟩ := hrel
    clear hS2
    by_cases hjn : j < N
    · have hjn' : (j : Int) < N := by omega
      have hjL : j < TT.length := by rw [← HN.out]; exact hjn
      have hT : TT[j]? = some TT[j] := List.getElem?_eq_getElem hjL
      obtain ⟨_, hts⟩ := HF.out _ (List.mem_of_getElem? hT)
      obtain ⟨b, o, A', c', rfl, hb, hc1, hc2, _⟩ := h.row hT
      have HPR := Lib.hid (fun w2 => sf_printable TT[j].tag w2 hts)
      have HTG := Lib.hid (fun e => right_tag hT e)
      have HLS := Lib.hid (fun U h0 hU e => right_less (U := U) hT h0 hU e)
      have HNX := Lib.hid (fun e hl => upTo_next HU.out hT e hl)
      generalize TT[j] = T at *
      obtain ⟨s, L⟩ := T
      simp only at hc1 hc2 HPR HTG HLS HNX
      have c1 := (hS.1 _ _ hb).trans hc1
      have c2 := (hS.1 _ _ hb).trans hc2
      have hbw := hS.2.2.1 _ hb
      clear hc1 hc2
      obtain ⟨g, hg⟩ : ∃ g, TagG s = g := ⟨_, rfl⟩
      rw [hg] at HPR HTG HNX
      clear hg hts
      go_upto_region 6 with fail
      refine wp_named fun w3 hw3 => ?_
      have hS3 : Since wr w3 := by subst hw3; (repeat (first | with_reducible (exact Since.refl _) | with_reducible assumption | with_reducible (refine Since.drew ?_) | with_reducible (refine Since.drewN ?_ _) | with_reducible (refine Since.alloc ?_ _) | (with_reducible (refine Since.setCell ?_ ?_ _); rotate_left; focus (first | (simp; done) | (simp; omega) | omega)) | (with_reducible (refine Since.trans ?_ (by with_reducible assumption)))))
      have hw3a : w3 = wr.alloc (.cells #[.string s, .slice A' L.length c'] 36) := hw3
      obtain ⟨k1, k2, k3⟩ := two_tb (w' := w3) (by rw [hw3a]; exact Since.refl _)
      obtain ⟨gx, hgx⟩ : ∃ gx, gx = wr.heap.size := ⟨_, rfl⟩
      rw [← hgx] at k1 k2 k3 ⊢
      have hSw := hS.trans hS3
      clear hw3 hw3a hgx
      cases g
      · have E := Lib.hid (HTG.out rfl)
        clear HTG HLS HNX
        go_quiet ((go_at_call 56; exact Calls.quiet_of_same (HPR.out _)))
        go_wp2_with fail
        go_ret
        rw [E.out]
        exact ⟨by first | rfl | simp, by (repeat (first | with_reducible (exact Since.refl _) | with_reducible assumption | with_reducible (refine Since.drew ?_) | with_reducible (refine Since.drewN ?_ _) | with_reducible (refine Since.alloc ?_ _) | (with_reducible (refine Since.setCell ?_ ?_ _); rotate_left; focus (first | (simp; done) | (simp; omega) | omega)) | (with_reducible (refine Since.trans ?_ (by with_reducible assumption)))))⟩
      · by_cases hj0 : j = 0
        · subst hj0
          have HN2 := Lib.hid (HNX.out rfl (fun U h0 => absurd h0 (by omega)))
          have dz : decide ((0 : Int) < ((0 : Nat) : Int)) = false := by simp
          clear HTG HLS HNX
          go_quiet ((go_at_call 56; exact Calls.quiet_of_same (HPR.out _)))
          go_wp2_with fail
          go_roundw
          case rel => first | exact ⟨1, by omega, by first | rfl | go_num | simp, HN2, by (repeat (first | with_reducible (exact Since.refl _) | with_reducible assumption | with_reducible (refine Since.drew ?_) | with_reducible (refine Since.drewN ?_ _) | with_reducible (refine Since.alloc ?_ _) | (with_reducible (refine Since.setCell ?_ ?_ _); rotate_left; focus (first | (simp; done) | (simp; omega) | omega)) | (with_reducible (refine Since.trans ?_ (by with_reducible assumption)))))⟩ | ((repeat apply Exists.intro); refine ⟨?_, rfl⟩; exact ⟨1, by omega, by first | rfl | go_num | simp, HN2, by (repeat (first | with_reducible (exact Since.refl _) | with_reducible assumption | with_reducible (refine Since.drew ?_) | with_reducible (refine Since.drewN ?_ _) | with_reducible (refine Since.alloc ?_ _) | (with_reducible (refine Since.setCell ?_ ?_ _); rotate_left; focus (first | (simp; done) | (simp; omega) | omega)) | (with_reducible (refine Since.trans ?_ (by with_reducible assumption)))))⟩)
          case measure => simp [intOf]; omega
        · have hjp : 0 < j := by omega
          have dz : (0 : Int) < (j : Int) := by omega
          have dz2 : decide ((0 : Int) < (j : Int)) = true := by simpa using dz
          have dz4 : decide (0 < j) = true := by simpa using hjp
          have hj1L : j - 1 < TT.length := by omega
          have hT1 : TT[j - 1]? = some TT[j - 1] := List.getElem?_eq_getElem hj1L
          obtain ⟨b1, o1, A1, c3, e1, hb1, hc3, hc4, hrd9⟩ := h.row hT1
          injection e1 with e1
          injection e1 with e1 e2
          subst e1 e2
          have q1 := (hSw.1 _ _ hb1).trans hc3
          have m1 : IntKind.i64.wrap ((j : Int) - 1) = ((j - 1 : Nat) : Int) := by rw [IntKind.wrap_i64]; omega
          have hn1 : j - 1 < N := by omega
          have HLS2 := Lib.hid (fun e => HLS.out _ hjp hT1 e)
          have HNX2 := Lib.hid (show Op.bytesLess TT[j - 1].tag.toList s.toList = true → UpTo TT (j + 1) from fun e => HNX.out rfl (fun U h0 hU => by
            rw [hT1] at hU
            injection hU with hU
            subst hU
            exact e))
          generalize TT[j - 1].tag = p at *
          obtain ⟨z2, hz2⟩ : ∃ z2, Op.bytesLess p.toList s.toList = z2 := ⟨_, rfl⟩
          rw [hz2] at HLS2 HNX2
          clear HTG HLS HNX hc3 hc4 hrd9 hT1 hj1L
          cases z2
          · have E := Lib.hid (HLS2.out rfl)
            clear HLS2 HNX2
            go_quiet ((go_at_call 56; exact Calls.quiet_of_same (HPR.out _)))
            go_wp2_with fail
            go_ret
            rw [E.out]
            exact ⟨by first | rfl | simp, by (repeat (first | with_reducible (exact Since.refl _) | with_reducible assumption | with_reducible (refine Since.drew ?_) | with_reducible (refine Since.drewN ?_ _) | with_reducible (refine Since.alloc ?_ _) | (with_reducible (refine Since.setCell ?_ ?_ _); rotate_left; focus (first | (simp; done) | (simp; omega) | omega)) | (with_reducible (refine Since.trans ?_ (by with_reducible assumption)))))⟩
          · have HN2 := Lib.hid (HNX2.out rfl)
            clear HLS2 HNX2
            go_quiet ((go_at_call 56; exact Calls.quiet_of_same (HPR.out _)))
            go_wp2_with fail
            go_roundw
            case rel => first | exact ⟨j + 1, by omega, by first | rfl | go_num | simp, HN2, by (repeat (first | with_reducible (exact Since.refl _) | with_reducible assumption | with_reducible (refine Since.drew ?_) | with_reducible (refine Since.drewN ?_ _) | with_reducible (refine Since.alloc ?_ _) | (with_reducible (refine Since.setCell ?_ ?_ _); rotate_left; focus (first | (simp; done) | (simp; omega) | omega)) | (with_reducible (refine Since.trans ?_ (by with_reducible assumption)))))⟩ | ((repeat apply Exists.intro); refine ⟨?_, rfl⟩; exact ⟨j + 1, by omega, by first | rfl | go_num | simp, HN2, by (repeat (first | with_reducible (exact Since.refl _) | with_reducible assumption | with_reducible (refine Since.drew ?_) | with_reducible (refine Since.drewN ?_ _) | with_reducible (refine Since.alloc ?_ _) | (with_reducible (refine Since.setCell ?_ ?_ _); rotate_left; focus (first | (simp; done) | (simp; omega) | omega)) | (with_reducible (refine Since.trans ?_ (by with_reducible assumption)))))⟩)
            case measure => simp [intOf]; omega
    · obtain rfl : N = j := by omega
      have hjn' : ¬ (N : Int) < (N : Int) := by omega
      have E := Lib.hid (HOK.out (by rw [← HN.out]; exact HU.out))
      clear h
      go_wp2_with fail
      go_ret
      rw [E.out]
      exact ⟨by first | rfl | simp, hS⟩
end Go.Proofs.Ytpplnapfpoloiaa

/-
  Layer 4: the reference's Right, walked; its put.
-/
namespace Go.Proofs.Ytpplnapfpoloiaa
open Go.RowKit Go.ChangeShapes Go.WideShapes Go.Deep
set_option linter.unusedVariables false
set_option linter.unusedSimpArgs false

theorem right_size {TT : List Tb} {j : Nat} {a : Nat} (ha : a = 12 + 16 * TT.length) (h : 1048576 < end4 a (TT.take j)) : RightG TT = false := rightG_no fun e => by
  subst ha
  have h1 := e.2.2.1
  have h2 := end4_take_le TT (12 + 16 * TT.length) j
  unfold size4 at h1
  omega
set_option maxRecDepth 100000 in
set_option maxHeartbeats 8000000 in
theorem rf_right4 (A : Option Addr) (N c : Nat) (TT : List Tb) (w : World) (h : RdTL w w.heap.size A TT) (hN : N = TT.length) (hf : FewT TT) :
    Calls Try.prog 19 #[.slice A N c] w fun e w' => e = .returned (.bool (RightG TT)) ∧ Since w w' := by
  obtain ⟨hf1, hf2⟩ := hf
  have HN := Lib.hid hN
  have HF := Lib.hid hf2
  have hNn : N ≤ 100000 := by omega
  have hNI : (N : Int) ≤ 100000 := by omega
  clear hN hf1 hf2
  by_cases h1 : N < 1
  · have E := Lib.hid (rightG_no (TT := TT) fun e => by have := e.1; have := HN.out; omega)
    have d1 : (N : Int) < 1 := by omega
    go_enter Try.func19, Try.ntmps19
    go_wp2_with fail
    go_ret
    rw [E.out]
    exact ⟨by first | rfl | simp, Since.refl _⟩
  have d1 : ¬ (N : Int) < 1 := by omega
  by_cases h2 : 64 < N
  · have E := Lib.hid (rightG_no (TT := TT) fun e => by have := e.2.1; have := HN.out; omega)
    have d2 : (64 : Int) < (N : Int) := by omega
    go_enter Try.func19, Try.ntmps19
    go_wp2_with fail
    go_ret
    rw [E.out]
    exact ⟨by first | rfl | simp, Since.refl _⟩
  have d2 : ¬ (64 : Int) < (N : Int) := by omega
  have HOK := Lib.hid (fun (hu : UpTo TT TT.length) (hs : end4 (12 + 16 * N) (TT.take N) ≤ 1048576) => rightG_yes (upTo_all hu (by have := HN.out; omega) (by have := HN.out; omega) (by
    rw [HN.out, List.take_length] at hs; exact hs)))
  have HRS := Lib.hid (fun (j : Nat) (e : 1048576 < end4 (12 + 16 * N) (TT.take j)) => right_size (TT := TT) (by rw [HN.out]) e)
  have hN64 : N ≤ 64 := by omega
  have hN64I : (N : Int) ≤ 64 := by omega
  have hN1 : 1 ≤ N := by omega
  have m8 : IntKind.i64.wrap (16 * (N : Int)) = 16 * (N : Int) := by rw [IntKind.wrap_i64]; omega
  have m9 : IntKind.i64.wrap (12 + 16 * (N : Int)) = 12 + 16 * (N : Int) := by rw [IntKind.wrap_i64]; omega
  clear h1 h2
  go_enter Try.func19, Try.ntmps19
  go_wp2_with fail
  go_loopw [3, 20] (fun v y wr => ∃ (j x : Nat), j ≤ N ∧ y = .int .i64 (j : Int) ∧ v = .int .i64 (x : Int) ∧ x ≤ 1048576 ∧ Hid (x = end4 (12 + 16 * N) (TT.take j) ∧ UpTo TT j) ∧ Since w wr) (fun _ y _ => N - (intOf y).toNat)
  case atStart => exact ⟨0, 12 + 16 * N, by omega, rfl, by first | rfl | go_num | simp, by omega, Lib.hid ⟨by simp [end4], fun i T hi => absurd hi (by omega)⟩, Since.refl _⟩
  case round =>
    obtain ⟨j, x, hj, rfl, rfl, hx, HU, hS⟩ := hrel
    have hxI : (x : Int) ≤ 1048576 := by omega
    clear m8 m9
    by_cases hjn : j < N
    · have hjn' : (j : Int) < N := by omega
      have hjL : j < TT.length := by rw [← HN.out]; exact hjn
      have hT : TT[j]? = some TT[j] := List.getElem?_eq_getElem hjL
      obtain ⟨hml, hts⟩ := HF.out _ (List.mem_of_getElem? hT)
      obtain ⟨b, o, A', c', rfl, hb, hc1, hc2, hrd8⟩ := h.row hT
      have HPR := Lib.hid (fun w2 => rf_tagged TT[j].tag w2 hts)
      have HTG := Lib.hid (fun e => right_tag hT e)
      have HLS := Lib.hid (fun U h0 hU e => right_less (U := U) hT h0 hU e)
      have HNX := Lib.hid (fun e hl => upTo_next HU.out.2 hT e hl)
      have HTK := Lib.hid (show x + pad4 TT[j].data.length = end4 (12 + 16 * N) (TT.take (j + 1)) by rw [List.take_succ_eq_append_getElem hjL, end4_snoc, ← HU.out.1])
      generalize TT[j] = T at *
      obtain ⟨s, L⟩ := T
      simp only at hc1 hc2 HPR HTG HLS HNX HTK hml
      obtain ⟨n, hn0⟩ : ∃ n, n = L.length := ⟨_, rfl⟩
      rw [← hn0] at hc2 HTK hml
      have c1 := (hS.1 _ _ hb).trans hc1
      have c2 := (hS.1 _ _ hb).trans hc2
      have hbw := hS.2.2.1 _ hb
      clear hc1 hc2 hn0 hrd8
      obtain ⟨g, hg⟩ : ∃ g, TagG s = g := ⟨_, rfl⟩
      rw [hg] at HPR HTG HNX
      clear hg hts
      have hnI : (n : Int) ≤ 1000000 := by omega
      have u1 : IntKind.i64.wrap ((n : Int) + 3) = (n : Int) + 3 := by rw [IntKind.wrap_i64]; omega
      have u2 : ((n : Int) + 3).tdiv 4 = (((n + 3) / 4 : Nat) : Int) := by rw [Int.tdiv_eq_ediv_of_nonneg (by omega)]; omega
      have u3 : IntKind.i64.wrap (((n + 3) / 4 : Nat) : Int) = (((n + 3) / 4 : Nat) : Int) := by rw [IntKind.wrap_i64]; omega
      have u4 : IntKind.i64.wrap ((((n + 3) / 4 : Nat) : Int) * 4) = (pad4 n : Int) := by rw [IntKind.wrap_i64]; unfold pad4; omega
      have u5 : (((n + 3) / 4 : Nat) : Int) * 4 = (pad4 n : Int) := by unfold pad4; omega
      have hp := pad4_le n
      have d9 : decide ((1048576 : Int) < (n : Int)) = false := by simp; omega
      have HPD := Lib.hid hp
      generalize pad4 n = p at *
      have hpI : (p : Int) ≤ 1000003 := by omega
      have u6 : IntKind.i64.wrap ((x : Int) + (p : Int)) = (x : Int) + (p : Int) := by rw [IntKind.wrap_i64]; omega
      clear hp
      go_upto_region 7 with fail
      refine wp_named fun w3 hw3 => ?_
      have hS3 : Since wr w3 := by subst hw3; (repeat (first | with_reducible (exact Since.refl _) | with_reducible assumption | with_reducible (refine Since.drew ?_) | with_reducible (refine Since.drewN ?_ _) | with_reducible (refine Since.alloc ?_ _) | (with_reducible (refine Since.setCell ?_ ?_ _); rotate_left; focus (first | (simp; done) | (simp; omega) | omega)) | (with_reducible (refine Since.trans ?_ (by with_reducible assumption)))))
      have hw3a : w3 = wr.alloc (.cells #[.string s, .slice A' n c'] 36) := hw3
      obtain ⟨k1, k2, k3⟩ := two_tb (w' := w3) (by rw [hw3a]; exact Since.refl _)
      obtain ⟨gx, hgx⟩ : ∃ gx, gx = wr.heap.size := ⟨_, rfl⟩
      rw [← hgx] at k1 k2 k3 ⊢
      have hSw := hS.trans hS3
      clear hw3 hw3a hgx
      cases g
      · have E := Lib.hid (HTG.out rfl)
        clear HTG HLS HNX
        go_quiet ((go_at_call 54; exact Calls.quiet_of_same (HPR.out _)))
        go_wp2_with fail
        go_ret
        rw [E.out]
        exact ⟨by first | rfl | simp, by (repeat (first | with_reducible (exact Since.refl _) | with_reducible assumption | with_reducible (refine Since.drew ?_) | with_reducible (refine Since.drewN ?_ _) | with_reducible (refine Since.alloc ?_ _) | (with_reducible (refine Since.setCell ?_ ?_ _); rotate_left; focus (first | (simp; done) | (simp; omega) | omega)) | (with_reducible (refine Since.trans ?_ (by with_reducible assumption)))))⟩
      · have hord : RightG TT = false ∨ UpTo TT (j + 1) := by
          by_cases hj0 : j = 0
          · exact .inr (HNX.out rfl (fun U h0 => absurd h0 (by omega)))
          · have hj1L : j - 1 < TT.length := by omega
            have hT1 : TT[j - 1]? = some TT[j - 1] := List.getElem?_eq_getElem hj1L
            cases hz : Op.bytesLess TT[j - 1].tag.toList s.toList
            · exact .inl (HLS.out _ (by omega) hT1 hz)
            · exact .inr (HNX.out rfl (fun U h0 hU => by
                rw [hT1] at hU
                injection hU with hU
                subst hU
                exact hz))
        by_cases hj0 : j = 0
        · subst hj0
          have HN2 := Lib.hid (HNX.out rfl (fun U h0 => absurd h0 (by omega)))
          have dz : decide ((0 : Int) < ((0 : Nat) : Int)) = false := by simp
          clear HTG HLS HNX hord
          by_cases hbig : 1048576 < x + p
          · have E := Lib.hid (HRS.out 1 (by rw [← HTK.out]; exact hbig))
            have d5 : decide ((1048576 : Int) < (x : Int) + (p : Int)) = true := by simp; omega
            go_quiet ((go_at_call 54; exact Calls.quiet_of_same (HPR.out _)))
            go_wp2_with fail
            go_ret
            rw [E.out]
            exact ⟨by first | rfl | simp, by (repeat (first | with_reducible (exact Since.refl _) | with_reducible assumption | with_reducible (refine Since.drew ?_) | with_reducible (refine Since.drewN ?_ _) | with_reducible (refine Since.alloc ?_ _) | (with_reducible (refine Since.setCell ?_ ?_ _); rotate_left; focus (first | (simp; done) | (simp; omega) | omega)) | (with_reducible (refine Since.trans ?_ (by with_reducible assumption)))))⟩
          · have d5 : decide ((1048576 : Int) < (x : Int) + (p : Int)) = false := by simp; omega
            go_quiet ((go_at_call 54; exact Calls.quiet_of_same (HPR.out _)))
            go_wp2_with fail
            go_roundw
            case rel => first | exact ⟨1, x + p, by omega, by first | rfl | go_num | simp, by first | rfl | go_num | simp, by omega, Lib.hid ⟨HTK.out, HN2.out⟩, by (repeat (first | with_reducible (exact Since.refl _) | with_reducible assumption | with_reducible (refine Since.drew ?_) | with_reducible (refine Since.drewN ?_ _) | with_reducible (refine Since.alloc ?_ _) | (with_reducible (refine Since.setCell ?_ ?_ _); rotate_left; focus (first | (simp; done) | (simp; omega) | omega)) | (with_reducible (refine Since.trans ?_ (by with_reducible assumption)))))⟩ | ((repeat apply Exists.intro); refine ⟨?_, rfl⟩; exact ⟨1, x + p, by omega, by first | rfl | go_num | simp, by first | rfl | go_num | simp, by omega, Lib.hid ⟨HTK.out, HN2.out⟩, by (repeat (first | with_reducible (exact Since.refl _) | with_reducible assumption | with_reducible (refine Since.drew ?_) | with_reducible (refine Since.drewN ?_ _) | with_reducible (refine Since.alloc ?_ _) | (with_reducible (refine Since.setCell ?_ ?_ _); rotate_left; focus (first | (simp; done) | (simp; omega) | omega)) | (with_reducible (refine Since.trans ?_ (by with_reducible assumption)))))⟩)
            case measure => simp [intOf]; omega
        · have hjp : 0 < j := by omega
          have dz : (0 : Int) < (j : Int) := by omega
          have dz2 : decide ((0 : Int) < (j : Int)) = true := by simpa using dz
          have dz4 : decide (0 < j) = true := by simpa using hjp
          have hj1L : j - 1 < TT.length := by omega
          have hT1 : TT[j - 1]? = some TT[j - 1] := List.getElem?_eq_getElem hj1L
          obtain ⟨b1, o1, A1, c3, e1, hb1, hc3, hc4, hrd9⟩ := h.row hT1
          injection e1 with e1
          injection e1 with e1 e2
          subst e1 e2
          have q1 := (hSw.1 _ _ hb1).trans hc3
          have m1 : IntKind.i64.wrap ((j : Int) - 1) = ((j - 1 : Nat) : Int) := by rw [IntKind.wrap_i64]; omega
          have hn1 : j - 1 < N := by omega
          have HLS2 := Lib.hid (fun e => HLS.out _ hjp hT1 e)
          have HNX2 := Lib.hid (show Op.bytesLess TT[j - 1].tag.toList s.toList = true → UpTo TT (j + 1) from fun e => HNX.out rfl (fun U h0 hU => by
            rw [hT1] at hU
            injection hU with hU
            subst hU
            exact e))
          generalize TT[j - 1].tag = pt at *
          have htri := less_tri pt.toList s.toList
          obtain ⟨z2, hz2⟩ : ∃ z2, Op.bytesLess pt.toList s.toList = z2 := ⟨_, rfl⟩
          rw [hz2] at HLS2 HNX2 htri
          clear HTG HLS HNX hc3 hc4 hrd9 hT1 hj1L hord
          obtain ⟨a1, ha1⟩ : ∃ a1, Op.bytesLess s.toList pt.toList = a1 := ⟨_, rfl⟩
          obtain ⟨a2, ha2⟩ : ∃ a2, (s.toList == pt.toList) = a2 := ⟨_, rfl⟩
          rw [ha1, ha2] at htri
          cases z2
          · have E := Lib.hid (HLS2.out rfl)
            clear HLS2 HNX2
            cases a1 <;> cases a2 <;> first | (exact absurd htri (by decide)) | skip
            all_goals
              clear htri
              go_quiet ((go_at_call 54; exact Calls.quiet_of_same (HPR.out _)))
              go_wp2_with fail
              go_ret
              rw [E.out]
              exact ⟨by first | rfl | simp, by (repeat (first | with_reducible (exact Since.refl _) | with_reducible assumption | with_reducible (refine Since.drew ?_) | with_reducible (refine Since.drewN ?_ _) | with_reducible (refine Since.alloc ?_ _) | (with_reducible (refine Since.setCell ?_ ?_ _); rotate_left; focus (first | (simp; done) | (simp; omega) | omega)) | (with_reducible (refine Since.trans ?_ (by with_reducible assumption)))))⟩
          · have HN2 := Lib.hid (HNX2.out rfl)
            clear HLS2 HNX2
            cases a1 <;> cases a2 <;> first | (exact absurd htri (by decide)) | skip
            clear htri
            have ha3 : ¬ s.toList = pt.toList := by simpa using ha2
            by_cases hbig : 1048576 < x + p
            · have E := Lib.hid (HRS.out (j + 1) (by rw [← HTK.out]; exact hbig))
              have d5 : decide ((1048576 : Int) < (x : Int) + (p : Int)) = true := by simp; omega
              go_quiet ((go_at_call 54; exact Calls.quiet_of_same (HPR.out _)))
              go_wp2_with fail
              go_ret
              rw [E.out]
              exact ⟨by first | rfl | simp, by (repeat (first | with_reducible (exact Since.refl _) | with_reducible assumption | with_reducible (refine Since.drew ?_) | with_reducible (refine Since.drewN ?_ _) | with_reducible (refine Since.alloc ?_ _) | (with_reducible (refine Since.setCell ?_ ?_ _); rotate_left; focus (first | (simp; done) | (simp; omega) | omega)) | (with_reducible (refine Since.trans ?_ (by with_reducible assumption)))))⟩
            · have d5 : decide ((1048576 : Int) < (x : Int) + (p : Int)) = false := by simp; omega
              go_quiet ((go_at_call 54; exact Calls.quiet_of_same (HPR.out _)))
              go_wp2_with fail
              go_roundw
              case rel => first | exact ⟨j + 1, x + p, by omega, by first | rfl | go_num | simp, by first | rfl | go_num | simp, by omega, Lib.hid ⟨HTK.out, HN2.out⟩, by (repeat (first | with_reducible (exact Since.refl _) | with_reducible assumption | with_reducible (refine Since.drew ?_) | with_reducible (refine Since.drewN ?_ _) | with_reducible (refine Since.alloc ?_ _) | (with_reducible (refine Since.setCell ?_ ?_ _); rotate_left; focus (first | (simp; done) | (simp; omega) | omega)) | (with_reducible (refine Since.trans ?_ (by with_reducible assumption)))))⟩ | ((repeat apply Exists.intro); refine ⟨?_, rfl⟩; exact ⟨j + 1, x + p, by omega, by first | rfl | go_num | simp, by first | rfl | go_num | simp, by omega, Lib.hid ⟨HTK.out, HN2.out⟩, by (repeat (first | with_reducible (exact Since.refl _) | with_reducible assumption | with_reducible (refine Since.drew ?_) | with_reducible (refine Since.drewN ?_ _) | with_reducible (refine Since.alloc ?_ _) | (with_reducible (refine Since.setCell ?_ ?_ _); rotate_left; focus (first | (simp; done) | (simp; omega) | omega)) | (with_reducible (refine Since.trans ?_ (by with_reducible assumption)))))⟩)
              case measure => simp [intOf]; omega
    · obtain rfl : N = j := by omega
      have hjn' : ¬ (N : Int) < (N : Int) := by omega
      have E := Lib.hid (HOK.out (by rw [← HN.out]; exact HU.out.2) (by rw [← HU.out.1]; exact hx))
      clear h
      go_wp2_with fail
      go_ret
      rw [E.out]
      exact ⟨by first | rfl | simp, hS⟩
end Go.Proofs.Ytpplnapfpoloiaa

/-
  Layer 4: the directory's head, walked.
-/
namespace Go.Proofs.Ytpplnapfpoloiaa
open Go.RowKit Go.ChangeShapes Go.WideShapes Go.Deep
set_option linter.unusedVariables false
set_option linter.unusedSimpArgs false

@[go_sem] theorem ix4_0 (a b c d : Value) (w : World) : (Instr.index 117 (.agg #[a, b, c, d]) (.int .i64 0)).run Try.prog w = .ok a w := by kernel_rfl
@[go_sem] theorem ix4_1 (a b c d : Value) (w : World) : (Instr.index 117 (.agg #[a, b, c, d]) (.int .i64 1)).run Try.prog w = .ok b w := by kernel_rfl
@[go_sem] theorem ix4_2 (a b c d : Value) (w : World) : (Instr.index 117 (.agg #[a, b, c, d]) (.int .i64 2)).run Try.prog w = .ok c w := by kernel_rfl
@[go_sem] theorem ix4_3 (a b c d : Value) (w : World) : (Instr.index 117 (.agg #[a, b, c, d]) (.int .i64 3)).run Try.prog w = .ok d w := by kernel_rfl
theorem up4_is : ∀ n, n < 65 → 1 ≤ n → Lib.bitLen n = up4 n + 1 ∧ up4 n ≤ 6 ∧ 2 ^ up4 n ≤ n ∧ n < 2 * 2 ^ up4 n := by decide +kernel
theorem own_rdw {w : World} {base n c : Nat} {A : Option Addr} {L : List Int} (h : OwnB w base (.slice A n c) L) : RdB w w.heap.size A L := by
  obtain ⟨A', c', e, _, hr⟩ := OwnG.rd (by omega) byL_len h
  injection e with e1 e2 e3
  subst e1
  exact hr
set_option maxHeartbeats 4000000 in
theorem bits_len (n : Nat) (w : World) (h1 : 1 ≤ n) (h2 : n ≤ 64) : Calls Try.prog 93 #[.int .u64 (n : Int)] w fun e w' => e = .returned (.int .i64 ((up4 n + 1 : Nat) : Int)) ∧ w' = w := by
  have HC := Lib.hid (len64 (n : Int) w (by omega) (by omega))
  rw [Int.toNat_natCast, (up4_is n (by omega) h1).1] at HC
  generalize up4 n = u at *
  go_enter Try.func93, Try.ntmps93
  go_wp2_with (go_at_call 112; (with_reducible refine HC.out.mono ?_); rintro e w3 ⟨rfl, hw3⟩; have hw4 := hw3.symm; subst hw4; clear hw3)
  go_ret
  exact ⟨rfl, rfl⟩
set_option maxRecDepth 1000000 in
set_option maxHeartbeats 8000000 in
theorem sf_dir (n : Nat) (w : World) (h1 : 1 ≤ n) (h2 : n ≤ 64) : Calls Try.prog 46 #[.int .i64 (n : Int)] w fun e w' => ∃ v, e = .returned v ∧ OwnB w' w.heap.size v (dir4 n) ∧ Since w w' := by
  have HB := Lib.hid (fun w2 => bits_len n w2 h1 h2)
  have hnI : (n : Int) ≤ 64 := by omega
  have hn1 : (1 : Int) ≤ (n : Int) := by omega
  have ED := Lib.hid (show dir4 n = putL 65536 4 ++ (putL n 2 ++ (putL ((16 * 2 ^ up4 n : Nat) : Int) 2 ++ (putL (up4 n) 2 ++ putL (((16 * n : Nat) : Int) - ((16 * 2 ^ up4 n : Nat) : Int)) 2))) from rfl)
  obtain ⟨_, hu, hu2, hu3⟩ := up4_is n (by omega) h1
  generalize up4 n = u at *
  have hu7 : u = 0 ∨ u = 1 ∨ u = 2 ∨ u = 3 ∨ u = 4 ∨ u = 5 ∨ u = 6 := by omega
  have HP := Lib.hid (fun (x : Int) (w2 : World) (hx : In64 x) => put_o 2 x 2 w2 hx rfl (by omega))
  have HP4 := Lib.hid (fun (w2 : World) => put_o 4 65536 4 w2 (by unfold In64; omega) rfl (by omega))
  obtain ⟨pp, hpp⟩ : ∃ pp, pp = 16 * 2 ^ u := ⟨_, rfl⟩
  rw [← hpp] at ED
  have hpp2 : pp ≤ 1024 := by rcases hu7 with rfl | rfl | rfl | rfl | rfl | rfl | rfl <;> simp at hpp <;> omega
  have hppI : (pp : Int) ≤ 1024 := by omega
  have hppn : pp ≤ 16 * n := by omega
  have hsh : IntKind.i64.wrap (16 * 2 ^ u) = (pp : Int) := by rw [hpp, IntKind.wrap_i64]; rcases hu7 with rfl | rfl | rfl | rfl | rfl | rfl | rfl <;> rfl
  have huI : (u : Int) ≤ 6 := by omega
  have m1 : IntKind.i64.wrap (((u + 1 : Nat) : Int) - 1) = (u : Int) := by rw [IntKind.wrap_i64]; omega
  have m2 : IntKind.i64.wrap (16 * (n : Int)) = 16 * (n : Int) := by rw [IntKind.wrap_i64]; omega
  have m3 : IntKind.i64.wrap (16 * (n : Int) - (pp : Int)) = 16 * (n : Int) - (pp : Int) := by rw [IntKind.wrap_i64]; omega
  clear hu2 hu3 hpp
  go_enter Try.func46, Try.ntmps46
  go_wp2_with (first | (go_at_call 93; (with_reducible refine (HB.out _).mono ?_); rintro e w3 ⟨rfl, hw3⟩; have hw4 := hw3.symm; subst hw4; clear hw3) | (go_at_call 48; (with_reducible refine (HP4.out _).mono ?_); rintro e w4 ⟨g4, rfl, hg4, hO4, hS4⟩))
  obtain ⟨q, hq⟩ : ∃ q : Int, q = 16 * (n : Int) - (pp : Int) := ⟨_, rfl⟩
  have EQ := Lib.hid (show ((16 * n : Nat) : Int) - (pp : Int) = q by rw [hq]; simp)
  rw [← hq]
  have hqb : 0 ≤ q ∧ q ≤ 1024 := by omega
  clear hq m1 m2 m3 hsh
  have HD := Lib.hid (show putL 65536 4 ++ nums8 ([(n : Int), (pp : Int), (u : Int), q] : List Int) = dir4 n by rw [ED.out, EQ.out]; simp [nums8])
  go_loopw [5, 23] (fun v y wr => ∃ (i : Nat) (z : Int), i ≤ 4 ∧ z = (i : Int) ∧ y = .int .i64 z ∧ OwnB wr w.heap.size v (putL 65536 4 ++ nums8 (([(n : Int), (pp : Int), (u : Int), q] : List Int).take i)) ∧ Since w wr) (fun _ y _ => 4 - (intOf y).toNat)
  case atStart => exact ⟨0, 0, by omega, rfl, rfl, by simpa [nums8] using hO4, hS4⟩
  case round =>
    obtain ⟨i, z, hi, hz, rfl, hO, hS⟩ := hrel
    clear hO4 hS4
    have hi5 : i = 0 ∨ i = 1 ∨ i = 2 ∨ i = 3 ∨ i = 4 := by omega
    rcases hi5 with rfl | rfl | rfl | rfl | rfl

    · obtain rfl : z = 0 := by omega
      have HTA := Lib.hid (show putL 65536 4 ++ nums8 (([(n : Int), (pp : Int), (u : Int), q] : List Int).take 1) = putL 65536 4 ++ nums8 (([(n : Int), (pp : Int), (u : Int), q] : List Int).take 0) ++ putL ↑n 2 by simp [nums8])
      have hlen : (putL 65536 4 ++ nums8 (([(n : Int), (pp : Int), (u : Int), q] : List Int).take 0)).length + (putL ↑n 2).length ≤ 140737488355328 := by rw [List.length_append, nums8_len, putL_len, putL_len, List.length_take]; omega
      clear hz
      generalize putL 65536 4 ++ nums8 (([(n : Int), (pp : Int), (u : Int), q] : List Int).take 0) = P at *
      go_wp2_with (first | (go_at_call 48; (with_reducible refine (HP.out ↑n _ (by unfold In64; omega)).mono ?_); rintro e w6 ⟨g6, rfl, hg6, hO6, hS6⟩; have hT6 := hS.trans hS6; have hP6 := OwnG.since hO hS6; have hr6 := own_rdw hO6; have hl6 := putL_len ↑n 2) | (at_builtin; refine wpList_append_b rfl _ _ rfl hT6 _ P rfl hP6 _ (some ⟨g6, 0, none⟩) 2 2 (putL ↑n 2) hl6.symm rfl hr6 hlen ?_; intro v7 w7 hO7 hS7))
      go_roundw
      case rel => exact ⟨1, 1, by omega, rfl, by first | rfl | go_num | simp, by rw [HTA.out]; exact hO7, hS7⟩
      case measure => simp [intOf]

    · obtain rfl : z = 1 := by omega
      have HTA := Lib.hid (show putL 65536 4 ++ nums8 (([(n : Int), (pp : Int), (u : Int), q] : List Int).take 2) = putL 65536 4 ++ nums8 (([(n : Int), (pp : Int), (u : Int), q] : List Int).take 1) ++ putL ↑pp 2 by simp [nums8])
      have hlen : (putL 65536 4 ++ nums8 (([(n : Int), (pp : Int), (u : Int), q] : List Int).take 1)).length + (putL ↑pp 2).length ≤ 140737488355328 := by rw [List.length_append, nums8_len, putL_len, putL_len, List.length_take]; omega
      clear hz
      generalize putL 65536 4 ++ nums8 (([(n : Int), (pp : Int), (u : Int), q] : List Int).take 1) = P at *
      go_wp2_with (first | (go_at_call 48; (with_reducible refine (HP.out ↑pp _ (by unfold In64; omega)).mono ?_); rintro e w6 ⟨g6, rfl, hg6, hO6, hS6⟩; have hT6 := hS.trans hS6; have hP6 := OwnG.since hO hS6; have hr6 := own_rdw hO6; have hl6 := putL_len ↑pp 2) | (at_builtin; refine wpList_append_b rfl _ _ rfl hT6 _ P rfl hP6 _ (some ⟨g6, 0, none⟩) 2 2 (putL ↑pp 2) hl6.symm rfl hr6 hlen ?_; intro v7 w7 hO7 hS7))
      go_roundw
      case rel => exact ⟨2, 2, by omega, rfl, by first | rfl | go_num | simp, by rw [HTA.out]; exact hO7, hS7⟩
      case measure => simp [intOf]

    · obtain rfl : z = 2 := by omega
      have HTA := Lib.hid (show putL 65536 4 ++ nums8 (([(n : Int), (pp : Int), (u : Int), q] : List Int).take 3) = putL 65536 4 ++ nums8 (([(n : Int), (pp : Int), (u : Int), q] : List Int).take 2) ++ putL ↑u 2 by simp [nums8])
      have hlen : (putL 65536 4 ++ nums8 (([(n : Int), (pp : Int), (u : Int), q] : List Int).take 2)).length + (putL ↑u 2).length ≤ 140737488355328 := by rw [List.length_append, nums8_len, putL_len, putL_len, List.length_take]; omega
      clear hz
      generalize putL 65536 4 ++ nums8 (([(n : Int), (pp : Int), (u : Int), q] : List Int).take 2) = P at *
      go_wp2_with (first | (go_at_call 48; (with_reducible refine (HP.out ↑u _ (by unfold In64; omega)).mono ?_); rintro e w6 ⟨g6, rfl, hg6, hO6, hS6⟩; have hT6 := hS.trans hS6; have hP6 := OwnG.since hO hS6; have hr6 := own_rdw hO6; have hl6 := putL_len ↑u 2) | (at_builtin; refine wpList_append_b rfl _ _ rfl hT6 _ P rfl hP6 _ (some ⟨g6, 0, none⟩) 2 2 (putL ↑u 2) hl6.symm rfl hr6 hlen ?_; intro v7 w7 hO7 hS7))
      go_roundw
      case rel => exact ⟨3, 3, by omega, rfl, by first | rfl | go_num | simp, by rw [HTA.out]; exact hO7, hS7⟩
      case measure => simp [intOf]

    · obtain rfl : z = 3 := by omega
      have HTA := Lib.hid (show putL 65536 4 ++ nums8 (([(n : Int), (pp : Int), (u : Int), q] : List Int).take 4) = putL 65536 4 ++ nums8 (([(n : Int), (pp : Int), (u : Int), q] : List Int).take 3) ++ putL q 2 by simp [nums8])
      have hlen : (putL 65536 4 ++ nums8 (([(n : Int), (pp : Int), (u : Int), q] : List Int).take 3)).length + (putL q 2).length ≤ 140737488355328 := by rw [List.length_append, nums8_len, putL_len, putL_len, List.length_take]; omega
      clear hz
      generalize putL 65536 4 ++ nums8 (([(n : Int), (pp : Int), (u : Int), q] : List Int).take 3) = P at *
      go_wp2_with (first | (go_at_call 48; (with_reducible refine (HP.out q _ (by unfold In64; omega)).mono ?_); rintro e w6 ⟨g6, rfl, hg6, hO6, hS6⟩; have hT6 := hS.trans hS6; have hP6 := OwnG.since hO hS6; have hr6 := own_rdw hO6; have hl6 := putL_len q 2) | (at_builtin; refine wpList_append_b rfl _ _ rfl hT6 _ P rfl hP6 _ (some ⟨g6, 0, none⟩) 2 2 (putL q 2) hl6.symm rfl hr6 hlen ?_; intro v7 w7 hO7 hS7))
      go_roundw
      case rel => exact ⟨4, 4, by omega, rfl, by first | rfl | go_num | simp, by rw [HTA.out]; exact hO7, hS7⟩
      case measure => simp [intOf]

    · obtain rfl : z = 4 := by omega
      rw [show ([(n : Int), (pp : Int), (u : Int), q] : List Int).take 4 = [(n : Int), (pp : Int), (u : Int), q] from rfl, HD.out] at hO
      have HO := Lib.hid hO
      clear hO hz hi
      go_wp2_with fail
      go_ret
      exact ⟨_, rfl, HO.out, hS⟩
end Go.Proofs.Ytpplnapfpoloiaa

/-
  Layer 4: what the loop of Write holds; append of a string's bytes; Pad and Sum told by lists.
-/
namespace Go.Proofs.Ytpplnapfpoloiaa
open Go.RowKit Go.ChangeShapes Go.WideShapes Go.Deep
set_option linter.unusedVariables false
set_option linter.unusedSimpArgs false

theorem strCells_tag (s : ByteArray) : Lib.strCells s = cellsG byL (tagB s) := by
  unfold Lib.strCells cellsG tagB
  rw [List.flatMap_map]
  induction s.data.toList with
  | nil => rfl
  | cons a l ih => rw [List.map_cons, ih, List.flatMap_cons]; rfl
/-- append of a string's bytes to bytes of the call's own; where they lie then. -/
theorem wpList_append_s {w w0 : World} {ops : Array Oper} {rest : List Oper} {o : Oper} {a : Act} {Q : Exit → Act → World → Prop} (hgd : o.guard = none) (sl x : Operand)
    (ho : o.op = .call { callee := .builtin .append, args := #[sl, x], argTypes := #[26, 9] })
    (hS : Since w0 w) (v : Value) (L : List Int) (hs : a.eval sl = v) (hown : OwnB w w0.heap.size v L) (s : ByteArray) (hx : a.eval x = .string s) (hbytes : L.length + s.size ≤ 140737488355328)
    (h : ∀ v' w', OwnB w' w0.heap.size v' (L ++ tagB s) → Since w0 w' → w.grownBy w' v.ownBlock → (v'.ownBlock = v.ownBlock ∨ v'.ownBlock = some w.heap.size) → wpList Try.prog ops Q rest (a.put o.dst v') w') :
    wpList Try.prog ops Q (o :: rest) a w := by
  refine wpList_plain hgd fun K hK => ?_
  obtain ⟨i0, hi, hz0, hz1, hz2⟩ := info_parts Try.info_u8
  have h63 : L.length + s.size ≤ maxLen := by simp only [maxLen]; omega
  have hown' := hown
  unfold OwnB OwnG at hown'
  obtain ⟨v', w', hr, h2, h3, h4⟩ := Lib.run_append_own_string (P := Try.prog) w w0.heap.size 26 9 o.type 5 i0 Try.underlying26 Try.underlying9 hi hz0 hz1 hz2 v L.length (cellsG byL L) hown' s h63 hbytes hS.below.size
  have hlt := fun q (hq : v.ownBlock = some q) => hown.lt hq
  have hloc : v'.ownBlock = v.ownBlock ∨ v'.ownBlock = some w.heap.size := by
    rcases hown'.2 with ⟨rfl, h0⟩ | ⟨g, cap, cur, rfl, hbg, hg, hnc, hcm, hcs, htake⟩
    · by_cases hm : s.size = 0
      · have := h4.2 ⟨rfl, hm⟩
        subst this; exact .inl rfl
      · have hr2 := run_append_nil_string (P := Try.prog) w 26 9 o.type 5 i0 (.int .u8 0) Try.underlying26 Try.underlying9 hi hz0 s (by omega) (by omega) (by rw [hz2]; omega)
        rw [hr] at hr2
        injection hr2 with e _
        subst e; exact .inr rfl
    · by_cases hroom : L.length + s.size ≤ cap
      · have hcur : cur.size = cap := by simpa using hcs
        have hr2 := Lib.run_append_room_string (P := Try.prog) w 26 9 o.type 5 i0 Try.underlying26 Try.underlying9 hi hz1 g L.length cap cur hg s hroom (by omega)
        rw [hr] at hr2
        injection hr2 with e _
        subst e; exact .inl rfl
      · have hr2 := Lib.run_append_grow_string (P := Try.prog) w 26 9 o.type 5 i0 (.int .u8 0) Try.underlying26 Try.underlying9 hi hz0 ⟨g, 0, none⟩ L.length cap (cellsG byL L) (by rw [hz1, cellsG_len byL_len]) (hown'.cells (g := g) rfl) s (by omega) (by omega) (by rw [hz2]; exact growslice_fits (by omega) (by omega))
        rw [hr] at hr2
        injection hr2 with e _
        subst e; exact .inr rfl
  unfold Oper.wp execOp
  simp only [ho, resolve, invoke, builtin, Sem.run_bind, Sem.run_pure, Result.andThen_ok, List.map_toArray, List.map_cons, List.map_nil, hs, hx, hr]
  refine hK _ _ (h v' w' ?_ (since_grown hS h3 (fun q hq => (hlt q hq).1)) h3 hloc)
  unfold OwnB OwnG
  rw [strCells_tag, ← cellsG_append] at h2
  rw [List.length_append, tagB_len]
  exact h2
/-- append of bytes to bytes of the call's own; where they lie then. -/
theorem wpList_append_b4 {w w0 : World} {ops : Array Oper} {rest : List Oper} {o : Oper} {a : Act} {Q : Exit → Act → World → Prop} (hgd : o.guard = none) (s x : Operand)
    (ho : o.op = .call { callee := .builtin .append, args := #[s, x], argTypes := #[26, 26] })
    (hS : Since w0 w) (v : Value) (L : List Int) (hs : a.eval s = v) (hown : OwnB w w0.heap.size v L) (B : Nat) (A : Option Addr) (n c : Nat) (M : List Int) (hn : n = M.length) (hx : a.eval x = .slice A n c) (hr : RdB w B A M)
    (hbytes : L.length + M.length ≤ 140737488355328)
    (h : ∀ v' w', OwnB w' w0.heap.size v' (L ++ M) → Since w0 w' → w.grownBy w' v.ownBlock → (v'.ownBlock = v.ownBlock ∨ v'.ownBlock = some w.heap.size) → wpList Try.prog ops Q rest (a.put o.dst v') w') :
    wpList Try.prog ops Q (o :: rest) a w := by
  subst hn
  exact wpList_append_w hgd s x 26 26 5 5 ho (by omega) byL_len byL_one 1 Try.underlying26 Try.underlying26 infoBy w0.heap.size v L hs hown B A c M hx hr (by omega) (by simp only [maxLen]; omega) hS.below.size (fun v' w' h9 hg hlt hw => h v' w' h9 (since_grown hS hg (fun k hk => (hlt k hk).1)) hg hw)
/-- The two rows that Write makes, a table's data, and the table's box. -/
structure Wr4 (w : World) (vb vy vd : Value) (BL YL DL : List Int) (gx : Nat) (s : ByteArray) (A : Option Addr) (n c : Nat) (wr : World) : Prop where
  b : OwnB wr w.heap.size vb BL
  y : OwnB wr w.heap.size vy YL
  d : OwnB wr w.heap.size vd DL
  by_ : Apart7 vb vy
  bd : Apart7 vb vd
  yd : Apart7 vy vd
  x0 : wr.cell? ⟨gx, 0, none⟩ = some (.string s)
  x1 : wr.cell? ⟨gx, 1, none⟩ = some (.slice A n c)
  xz : gx < wr.heap.size
  xb : vb.ownBlock ≠ some gx
  xy : vy.ownBlock ≠ some gx
  s : Since w wr
section
variable {w wr w' : World} {vb vy vd v' : Value} {BL YL DL G : List Int} {gx n c : Nat} {s : ByteArray} {A : Option Addr}
theorem Wr4.since (h : Wr4 w vb vy vd BL YL DL gx s A n c wr) (k : Since wr w') : Wr4 w vb vy vd BL YL DL gx s A n c w' :=
  ⟨h.b.since k, h.y.since k, h.d.since k, h.by_, h.bd, h.yd, (k.1 _ _ h.xz).trans h.x0, (k.1 _ _ h.xz).trans h.x1, k.2.2.1 _ h.xz, h.xb, h.xy, h.s.trans k⟩
theorem ne_loc {gx : Nat} {v v' : Value} {w : World} (h : v.ownBlock ≠ some gx) (hz : gx < w.heap.size) (hl : v'.ownBlock = v.ownBlock ∨ v'.ownBlock = some w.heap.size) : v'.ownBlock ≠ some gx := fun e => by
  rcases hl with h1 | h1
  · exact h (by rw [← h1]; exact e)
  · rw [h1] at e; injection e with e; omega
theorem Wr4.growB (h : Wr4 w vb vy vd BL YL DL gx s A n c wr) (hO : OwnB w' w.heap.size v' G) (hS : Since w w') (hg : wr.grownBy w' vb.ownBlock) (hl : v'.ownBlock = vb.ownBlock ∨ v'.ownBlock = some wr.heap.size) : Wr4 w v' vy vd G YL DL gx s A n c w' :=
  ⟨hO, OwnG.grown h.y hg (fun q hq e => h.by_ q e hq), OwnG.grown h.d hg (fun q hq e => h.bd q e hq), h.by_.grow h.y hl, h.bd.grow h.d hl, h.yd, cell_grown h.x0 h.xz hg h.xb, cell_grown h.x1 h.xz hg h.xb, Nat.lt_of_lt_of_le h.xz hg.size, ne_loc h.xb h.xz hl, h.xy, hS⟩
theorem Wr4.growY (h : Wr4 w vb vy vd BL YL DL gx s A n c wr) (hO : OwnB w' w.heap.size v' G) (hS : Since w w') (hg : wr.grownBy w' vy.ownBlock) (hl : v'.ownBlock = vy.ownBlock ∨ v'.ownBlock = some wr.heap.size) : Wr4 w vb v' vd BL G DL gx s A n c w' :=
  ⟨OwnG.grown h.b hg (fun q hq e => h.by_ q hq e), hO, OwnG.grown h.d hg (fun q hq e => h.yd q e hq), (h.by_.symm.grow h.b hl).symm, h.bd, h.yd.grow h.d hl, cell_grown h.x0 h.xz hg h.xy, cell_grown h.x1 h.xz hg h.xy, Nat.lt_of_lt_of_le h.xz hg.size, h.xb, ne_loc h.xy h.xz hl, hS⟩
end
theorem sf_sum (A : Option Addr) (n c : Nat) (L : List Int) (w : World) (h : RdB w w.heap.size A L) (hn : n = L.length) (hb : Bytes L) (hx : n ≤ 140737488355328) :
    Calls Try.prog 49 #[.slice A n c] w fun e w' => e = .returned (.int .u32 (sumI L)) ∧ w' = w := by
  subst hn
  exact ts_sum A L.length c (fnL L) w (rdb_rd h) (bytes_fn hb) hx
theorem rf_sum4 (A : Option Addr) (n c : Nat) (L : List Int) (w : World) (h : RdB w w.heap.size A L) (hn : n = L.length) (hb : Bytes L) (hx : n ≤ 140737488355328) :
    Calls Try.prog 27 #[.slice A n c] w fun e w' => e = .returned (.int .u32 (sumI L)) ∧ w' = w := by
  subst hn
  exact ref_sum A L.length c (fnL L) w (rdb_rd h) (bytes_fn hb) hx
theorem sumI_range (L : List Int) : 0 ≤ sumI L ∧ sumI L < 4294967296 := accu_range (by omega) _
end Go.Proofs.Ytpplnapfpoloiaa

/-
  Layer 4: how long a font's bytes are, which they are; Pad told by lists; 'copy' of four bytes.
-/
namespace Go.Proofs.Ytpplnapfpoloiaa
open Go.RowKit Go.ChangeShapes Go.WideShapes Go.Deep
set_option linter.unusedVariables false
set_option linter.unusedSimpArgs false

theorem dir4_len (n : Nat) : (dir4 n).length = 12 := by unfold dir4; simp only [List.length_append, putL_len]
theorem ents4_len : ∀ (TT : List Tb) (a : Nat), (∀ T, T ∈ TT → T.tag.size = 4) → (ents4 a TT).length = 16 * TT.length := by
  intro TT
  induction TT with
  | nil => intro a h; rfl
  | cons T r ih =>
    intro a h
    unfold ents4 ent4
    simp only [List.length_append, putL_len, tagB_len, List.length_cons]
    rw [ih _ (fun U hU => h U (by simp [hU])), h T (by simp)]
    omega
theorem body4_len : ∀ (TT : List Tb) (a : Nat), a + (body4 TT).length = end4 a TT := by
  intro TT
  induction TT with
  | nil => intro a; rfl
  | cons T r ih =>
    intro a
    have h1 := ih a
    unfold body4 end4 at *
    rw [List.flatMap_cons, List.length_append, padL_len, blank4_len, List.map_cons, List.sum_cons]
    omega
theorem raw4_len {TT : List Tb} (h : ∀ T, T ∈ TT → T.tag.size = 4) : (raw4 TT).length = size4 TT := by
  unfold raw4 size4
  rw [List.length_append, List.length_append, dir4_len, ents4_len _ _ h, ← body4_len]
theorem adj4_ok : ∀ (TT : List Tb) (x : Int) (a : Nat), adj4 x a TT = x ∨ ((a : Int) + 8 ≤ adj4 x a TT ∧ adj4 x a TT + 4 ≤ (end4 a TT : Int)) := by
  intro TT
  induction TT with
  | nil => intro x a; exact .inl rfl
  | cons T r ih =>
    intro x a
    have e : end4 (a + pad4 T.data.length) r = end4 a (T :: r) := by unfold end4; rw [List.map_cons, List.sum_cons, Nat.add_assoc]
    have e2 : a + pad4 T.data.length ≤ end4 a (T :: r) := by rw [← e]; unfold end4; omega
    have hp := pad4_le T.data.length
    unfold adj4
    by_cases hT : adjT T = true
    · have h12 : 12 ≤ T.data.length := by
        unfold adjT at hT
        rw [Bool.and_eq_true] at hT
        exact of_decide_eq_true hT.2
      rw [if_pos hT]
      rcases ih ((a : Int) + 8) (a + pad4 T.data.length) with h | ⟨h1, h2⟩
      · right; rw [h]; omega
      · right; rw [e] at h2; omega
    · rw [if_neg hT]
      rcases ih x (a + pad4 T.data.length) with h | ⟨h1, h2⟩
      · exact .inl h
      · right; rw [e] at h2; omega
theorem bytes_tag (s : ByteArray) : Bytes (tagB s) := by
  intro v hv
  unfold tagB at hv
  rw [List.mem_map] at hv
  obtain ⟨b, _, rfl⟩ := hv
  have := b.toNat_lt
  omega
theorem bytes_ents : ∀ (TT : List Tb) (a : Nat), Bytes (ents4 a TT) := by
  intro TT
  induction TT with
  | nil => intro a v hv; cases hv
  | cons T r ih =>
    intro a
    unfold ents4 ent4
    exact bytes_app (bytes_app (bytes_tag _) (bytes_app (bytes_put _ _) (bytes_app (bytes_put _ _) (bytes_put _ _)))) (ih _)
theorem bytes_body {TT : List Tb} (h : ∀ T, T ∈ TT → Bytes T.data) : Bytes (body4 TT) := by
  intro v hv
  unfold body4 at hv
  rw [List.mem_flatMap] at hv
  obtain ⟨T, hT, hv⟩ := hv
  exact bytes_pad (bytes_blank (h T hT)) v hv
theorem bytes_raw {TT : List Tb} (h : ∀ T, T ∈ TT → Bytes T.data) : Bytes (raw4 TT) := by
  unfold raw4 dir4
  exact bytes_app (bytes_app (bytes_app (bytes_put _ _) (bytes_app (bytes_put _ _) (bytes_app (bytes_put _ _) (bytes_app (bytes_put _ _) (bytes_put _ _))))) (bytes_ents _ _)) (bytes_body h)
theorem pad4_is (n : Nat) : n + missing n (clampT 4) = pad4 n := by
  have h : clampT 4 = 4 := rfl
  rw [h]; unfold missing pad4; omega
theorem padTo_is (L : List Int) (j : Nat) (hj : j < pad4 L.length) : padTo L.length (fnL L) j = fnL (padL L) j := by
  unfold padTo fnL padL
  by_cases h : j < L.length
  · rw [if_pos h, List.getD_eq_getElem?_getD, List.getD_eq_getElem?_getD, List.getElem?_append_left h]
  · rw [if_neg h, List.getD_eq_getElem?_getD, List.getElem?_append_right (by omega), List.getElem?_replicate, if_pos (by omega)]; rfl
theorem sf_pad (A : Option Addr) (n c : Nat) (L : List Int) (w : World) (h : RdB w w.heap.size A L) (hn : n = L.length) (hx : n ≤ 140737488355328) :
    Calls Try.prog 50 #[.slice A n c, .int .i64 4] w fun e w' => ∃ g, e = .returned (.slice (some ⟨g, 0, none⟩) (pad4 n) (pad4 n)) ∧ w.heap.size ≤ g ∧ RdB w' w'.heap.size (some ⟨g, 0, none⟩) (padL L) ∧ Since w w' := by
  subst hn
  refine (be_pad A L.length c (fnL L) 4 w (rdb_rd h) (by unfold In64; omega) hx).mono ?_
  rintro e w' ⟨g, rfl, hg, hr, hS⟩
  rw [pad4_is] at hr ⊢
  have hp := pad4_le L.length
  refine ⟨g, rfl, hg, fun h0 => ?_, hS⟩
  have hp0 : 0 < pad4 L.length := by rw [← padL_len]; exact h0
  exact rdb_of (fun hh => Rd.of_row hr hh) (padL_len L).symm (padTo_is L) h0
theorem rf_pad (A : Option Addr) (n c : Nat) (L : List Int) (w : World) (h : RdB w w.heap.size A L) (hn : n = L.length) (hx : n ≤ 140737488351232) :
    Calls Try.prog 58 #[.slice A n c, .int .i64 4] w fun e w' => ∃ g d, e = .returned (.slice (some ⟨g, 0, none⟩) (pad4 n) d) ∧ w.heap.size ≤ g ∧ RdB w' w'.heap.size (some ⟨g, 0, none⟩) (padL L) ∧ Since w w' := by
  subst hn
  refine (ref_pad A L.length c (fnL L) 4 w (rdb_rd h) (by unfold In64; omega) hx).mono ?_
  rintro e w' ⟨g, d, rfl, hg, hr, hS⟩
  rw [pad4_is] at hr ⊢
  refine ⟨g, d, rfl, hg, fun h0 => ?_, hS⟩
  have hp0 : 0 < pad4 L.length := by rw [← padL_len]; exact h0
  exact rdb_of (fun hh => Rd.of_row hr hh) (padL_len L).symm (padTo_is L) h0
theorem set4_at : ∀ (p : Nat) (L : List Int) (a b c d : Int), p + 4 ≤ L.length → (((L.set p a).set (p + 1) b).set (p + 2) c).set (p + 3) d = layL L p [a, b, c, d] := by
  intro p
  induction p with
  | zero =>
    intro L a b c d h
    rcases L with _ | ⟨x, _ | ⟨y, _ | ⟨z, _ | ⟨u, r⟩⟩⟩⟩ <;> first | rfl | (simp at h; omega) | (simp at h)
  | succ p ih =>
    intro L a b c d h
    cases L with
    | nil => simp at h
    | cons x r =>
      have h1 := ih r a b c d (by simpa using h)
      have e1 : p + 1 + 1 = (p + 1) + 1 := rfl
      have e2 : p + 1 + 2 = (p + 2) + 1 := by omega
      have e3 : p + 1 + 3 = (p + 3) + 1 := by omega
      rw [e2, e3, List.set_cons_succ, List.set_cons_succ, List.set_cons_succ, List.set_cons_succ, h1]
      unfold layL
      have e4 : p + 1 + ([a, b, c, d] : List Int).length = (p + ([a, b, c, d] : List Int).length) + 1 := by omega
      rw [e4, List.take_succ_cons, List.drop_succ_cons]; rfl
theorem four_of {M : List Int} (h : M.length = 4) : ∃ a b c d, M = [a, b, c, d] := by
  rcases M with _ | ⟨a, _ | ⟨b, _ | ⟨c, _ | ⟨d, _ | ⟨e, r⟩⟩⟩⟩⟩
  · cases h
  · cases h
  · cases h
  · cases h
  · exact ⟨a, b, c, d, rfl⟩
  · simp at h
/-- Four bytes, laid over bytes of the call's own. -/
theorem copy4 {w : World} {base q n c : Nat} {L M : List Int} (h : OwnB w base (.slice (some ⟨q, 0, none⟩) n c) L) {p : Nat} (hp : p + 4 ≤ L.length) (hM : M.length = 4) {B b : Nat} (hr : RdB w B (some ⟨b, 0, none⟩) M) (ty : TypeId) (d k : Nat) (hd : 4 ≤ d) (x : Nat) :
    (Builtin.copy_ #[26, 26] ty #[.slice (some ⟨q, p, none⟩) d k, .slice (some ⟨b, 0, none⟩) 4 x]).run Try.prog w = .ok (goInt 4) (w.setCells q p (M.map (Value.int .u8))) := by
  have hl : (M.map (Value.int .u8)).length = 4 := by rw [List.length_map, hM]
  have h0 := run_copy_cells (P := Try.prog) w 26 26 ty 5 q p d k ⟨b, 0, none⟩ 4 x (M.map (Value.int .u8)) Try.underlying26 Try.size_u8 (by rw [hl]; exact (Nat.min_eq_left hd).symm)
    (fun j v hj => by
      have hjl : j < M.length := by
        rcases Nat.lt_or_ge j M.length with h | h
        · exact h
        · rw [List.getElem?_eq_none (by rw [List.length_map]; exact h)] at hj; cases hj
      obtain ⟨b', o', e, _, hc⟩ := hr (by omega)
      injection e with e; injection e with e1 e2; subst e1; subst e2
      have h1 := hc j _ (fnL_get hjl) 0 (by omega)
      rw [List.getElem?_map, fnL_get hjl] at hj
      injection hj with hj
      subst hj
      rw [Nat.mul_one, Nat.add_zero] at h1
      rw [add_plain]
      exact h1)
    (fun j hj => by rw [hl] at hj; rw [(OwnB.cell h (p + j) (by omega)).1]; rfl) (fun j hj => by rw [hl] at hj; exact (OwnB.cell h (p + j) (by omega)).2)
    (fun v hv => by rw [List.mem_map] at hv; obtain ⟨y, _, rfl⟩ := hv; rfl)
  rw [hl] at h0
  exact h0
theorem own_lay4 {w : World} {base q n c : Nat} {L M : List Int} (h : OwnB w base (.slice (some ⟨q, 0, none⟩) n c) L) {p : Nat} (hp : p + 4 ≤ L.length) (hM : M.length = 4) : OwnB (w.setCells q p (M.map (Value.int .u8))) base (.slice (some ⟨q, 0, none⟩) n c) (layL L p M) := by
  obtain ⟨a, b, c', d, rfl⟩ := four_of hM
  have h4 := ((((OwnB.put h p a).put (p + 1) b).put (p + 2) c').put (p + 3) d)
  rw [set4_at p L a b c' d hp] at h4
  exact h4
theorem since_lay4 {w0 w : World} {q p : Nat} {M : List Int} (hM : M.length = 4) (h : Since w0 w) (hq : w0.heap.size ≤ q) : Since w0 (w.setCells q p (M.map (Value.int .u8))) := by
  obtain ⟨a, b, c', d, rfl⟩ := four_of hM
  exact (((h.setCell hq _).setCell hq _).setCell hq _).setCell hq _
end Go.Proofs.Ytpplnapfpoloiaa

/-
  Layer 4: the reference's 'put'; a string's bytes as a row; Lay told by lists.
-/
namespace Go.Proofs.Ytpplnapfpoloiaa
open Go.RowKit Go.ChangeShapes Go.WideShapes Go.Deep
set_option linter.unusedVariables false
set_option linter.unusedSimpArgs false

set_option maxHeartbeats 4000000 in
theorem rf_put4 {w w0 : World} (hS : Since w0 w) {v : Value} {L : List Int} (hO : OwnB w w0.heap.size v L) (x : Int) (k : Nat) (y : Int) (hx : In64 x) (hy : y = k) (hk : k ≤ 8) (hL : L.length ≤ 2000000) :
    Calls Try.prog 57 #[v, .int .i64 x, .int .i64 y] w fun e w' => ∃ v' w1, e = .returned v' ∧ OwnB w' w0.heap.size v' (L ++ putL x k) ∧ Since w0 w' ∧ Since w w1 ∧ w1.grownBy w' v.ownBlock ∧ (v'.ownBlock = v.ownBlock ∨ v'.ownBlock = some w1.heap.size) := by
  have HP := Lib.hid (fun w2 => rput_o k x y w2 hx hy hk)
  have l1 : L.length + (putL x k).length ≤ 140737488355328 := by rw [putL_len]; omega
  have e1 := Lib.hid (putL_len x k)
  clear hx hy hk hL
  go_enter Try.func57, Try.ntmps57
  go_wp2_with (first | (go_at_call 60; (with_reducible refine (HP.out _).mono ?_); rintro e w6 ⟨g6, rfl, hg6, hO6, hS6⟩; have hr6 := own_rdw hO6) | (at_builtin; refine wpList_append_b4 rfl (.tmp 7) (.tmp 10) (by rfl) (hS.trans hS6) v L (by rfl) (hO.since hS6) _ (some ⟨g6, 0, none⟩) k k (putL x k) e1.out.symm (by rfl) hr6 l1 ?_; intro v7 w7 hO7 hS7 hg7 hl7))
  go_ret
  exact ⟨_, w6, rfl, hO7, hS7, hS6, hg7, hl7⟩
theorem rdb_str (w : World) (s : ByteArray) (k b : Nat) (hb : b = w.heap.size) (t : TypeId) (fr : Nat × Nat) : RdB (w.drew.alloc (.cells (bytesRow s k) t fr)) (w.drew.alloc (.cells (bytesRow s k) t fr)).heap.size (some ⟨b, 0, none⟩) (tagB s) := fun h0 => by
  subst hb
  refine ⟨w.heap.size, 0, rfl, by simp, fun j x hj i hi => ?_⟩
  obtain rfl : i = 0 := by omega
  have hh : (w.drew.alloc (.cells (bytesRow s k) t fr)).heap[w.heap.size]? = some (.cells (bytesRow s k) t fr) := by
    show (w.heap.push _)[w.heap.size]? = _
    simp
  unfold tagB at hj
  rw [List.getElem?_map] at hj
  obtain ⟨u, hu, rfl⟩ := Option.map_eq_some_iff.1 hj
  rw [Array.getElem?_toList] at hu
  have hjs : j < s.data.size := (Array.getElem?_eq_some_iff.1 hu).1
  have hc : (bytesRow s k)[j]? = some (.int .u8 (u.toNat : Int)) := by
    unfold bytesRow
    rw [Array.getElem?_append_left (by rw [Array.size_map]; exact hjs), Array.getElem?_map, hu]
    rfl
  simp only [World.cell?, hh, Nat.zero_add, Nat.mul_one, Nat.add_zero, hc]
  rfl
theorem layF_is (R M : List Int) (p : Nat) (h : p + M.length ≤ R.length) (j : Nat) (hj : j < R.length) : layF (fnL R) (fnL M) M.length (p : Int) j = fnL (layL R p M) j := by
  unfold layF layL fnL
  rw [Int.toNat_natCast]
  simp only [List.getD_eq_getElem?_getD]
  by_cases h1 : j < p
  · rw [if_neg (by omega), List.getElem?_append_left (by rw [List.length_take]; omega), List.getElem?_take_of_lt h1]
  · by_cases h2 : j < p + M.length
    · rw [if_pos ⟨by omega, h2⟩, List.getElem?_append_right (by rw [List.length_take]; omega), List.length_take, Nat.min_eq_left (by omega), List.getElem?_append_left (by omega)]
    · rw [if_neg (by omega), List.getElem?_append_right (by rw [List.length_take]; omega), List.length_take, Nat.min_eq_left (by omega), List.getElem?_append_right (by omega), List.getElem?_drop]
      congr 2
      omega
theorem layL_len (R M : List Int) (p : Nat) (h : p + M.length ≤ R.length) : (layL R p M).length = R.length := by
  unfold layL; rw [List.length_append, List.length_append, List.length_take, List.length_drop]; omega
theorem rf_lay4 (A B : Option Addr) (n c d : Nat) (R M : List Int) (p : Nat) (w : World) (h : RdB w w.heap.size A R) (hB : RdB w w.heap.size B M) (hn : n = R.length) (hM : M.length = 4) (hp : p + 4 ≤ R.length) (hx : n ≤ 140737488355328) :
    Calls Try.prog 59 #[.slice A n c, .int .i64 (p : Int), .slice B 4 d] w fun e w' => ∃ A' c', e = .returned (.tuple #[.slice A' n c', .int .i64 0]) ∧ RdB w' w'.heap.size A' (layL R p M) ∧ Since w w' := by
  subst hn
  have h4 := ref_lay A B R.length c 4 d (fnL R) (fnL M) (p : Int) w (rdb_rd h) (rdb_rd' hB hM.symm) (by unfold In64; omega) hx (by omega)
  refine h4.mono ?_
  rintro e w' ⟨A', l, cap, rfl, hl, _, hN, hS⟩
  have hf : Fits R.length (p : Int) 4 := by unfold Fits; omega
  obtain ⟨e1, e2⟩ := lay_yes hf
  rw [e2] at hl
  subst hl
  refine ⟨A', cap, by rw [e1], ?_, hS⟩
  refine rdb_of hN.rd (by rw [layL_len R M p (by omega)]) (fun j hj => ?_)
  have := layF_is R M p (by omega) j hj
  rw [hM] at this
  exact this
end Go.Proofs.Ytpplnapfpoloiaa

/-
  Layer 4: Write, walked.
-/
namespace Go.Proofs.Ytpplnapfpoloiaa
open Go.RowKit Go.ChangeShapes Go.WideShapes Go.Deep
set_option linter.unusedVariables false
set_option linter.unusedSimpArgs false

set_option maxRecDepth 1000000 in
set_option maxHeartbeats 32000000 in
theorem sf_write (A : Option Addr) (N c : Nat) (TT : List Tb) (w : World) (h : RdTL w w.heap.size A TT) (hN : N = TT.length) (hf : FewT TT) (hb : ∀ T, T ∈ TT → Bytes T.data) :
    Calls Try.prog 18 #[.slice A N c] w fun e w' => ∃ v, e = .returned (.tuple #[v, .int .i64 (if RightG TT = true then 0 else 4)]) ∧ OwnB w' w.heap.size v (if RightG TT = true then file4 TT else []) ∧ Since w w' := by
  have HRT := Lib.hid (fun (w2 : World) => sf_right A N c TT w)
  have HR0 := Lib.hid (sf_right A N c TT w h hN hf)
  clear HRT
  by_cases hR : right4 TT
  · have hG := rightG_yes hR
    rw [hG] at HR0 ⊢
    rw [if_pos rfl, if_pos rfl]
    obtain ⟨r1, r2, r3, r4, _⟩ := hR
    have hts : ∀ T, T ∈ TT → T.tag.size = 4 := fun T hT => by
      obtain ⟨j, hj⟩ := List.mem_iff_getElem?.1 hT
      exact (r4 j T hj).1
    have HTS := Lib.hid hts
    have HBY := Lib.hid hb
    have HF := Lib.hid hf
    have HN := Lib.hid hN
    have hNn : N ≤ 64 := by omega
    have hN1 : 1 ≤ N := by omega
    have hNI : (N : Int) ≤ 64 := by omega
    have HD := Lib.hid (fun w2 => sf_dir N w2 hN1 hNn)
    have HE := Lib.hid (fun j => Nat.le_trans (end4_take_le TT (12 + 16 * N) j) (by rw [hN]; exact r3 : end4 (12 + 16 * N) TT ≤ 1048576))
    have HRL := Lib.hid (show (raw4 TT).length ≤ 1048576 by rw [raw4_len hts]; exact r3)
    have HRB := Lib.hid (bytes_raw hb)
    have HAJ := Lib.hid (show adj4 (-1) (12 + 16 * N) TT = -1 ∨ ((12 + 16 * N : Nat) : Int) + 8 ≤ adj4 (-1) (12 + 16 * N) TT ∧ adj4 (-1) (12 + 16 * N) TT + 4 ≤ ((raw4 TT).length : Int) by rw [raw4_len hts]; unfold size4; rw [← hN]; exact adj4_ok TT (-1) (12 + 16 * N))
    have HFL := Lib.hid (show file4 TT = if adj4 (-1) (12 + 16 * N) TT < 0 then raw4 TT else layL (raw4 TT) (adj4 (-1) (12 + 16 * N) TT).toNat (putL ((2981146554 - sumI (raw4 TT)) % 4294967296) 4) by unfold file4; rw [← hN])
    have HRW := Lib.hid (show raw4 TT = dir4 N ++ ents4 (12 + 16 * N) TT ++ body4 TT by unfold raw4; rw [← hN])
    clear hG hf hb hts r1 r2 r3 r4 hN
    have m1 : IntKind.i64.wrap (16 * (N : Int)) = 16 * (N : Int) := by rw [IntKind.wrap_i64]; omega
    have m2 : IntKind.i64.wrap (12 + 16 * (N : Int)) = 12 + 16 * (N : Int) := by rw [IntKind.wrap_i64]; omega
    go_enter Try.func18, Try.ntmps18
    go_wp2_with (first | (go_at_call 20; (with_reducible refine HR0.out.mono ?_); rintro e w2 ⟨rfl, hS2⟩) | (go_at_call 46; (with_reducible refine (HD.out _).mono ?_); rintro e w3 ⟨v3, rfl, hO3, hS3⟩))
    have hX3 : Since w w3 := by (repeat (first | with_reducible (exact Since.refl _) | with_reducible assumption | with_reducible (refine Since.drew ?_) | with_reducible (refine Since.drewN ?_ _) | with_reducible (refine Since.alloc ?_ _) | (with_reducible (refine Since.setCell ?_ ?_ _); rotate_left; focus (first | (simp; done) | (simp; omega) | omega)) | (with_reducible (refine Since.trans ?_ (by with_reducible assumption)))))
    go_loopw [4, 5, 6, 7, 23] (fun vb vp va vy y wr => ∃ (j : Nat), j ≤ N ∧ y = .int .i64 (j : Int) ∧ vp = .int .i64 (end4 (12 + 16 * N) (TT.take j) : Int) ∧ va = .int .i64 (adj4 (-1) (12 + 16 * N) (TT.take j)) ∧ OwnB wr w.heap.size vb (dir4 N ++ ents4 (12 + 16 * N) (TT.take j)) ∧ OwnB wr w.heap.size vy (body4 (TT.take j)) ∧ Apart7 vb vy ∧ Since w wr) (fun _ _ _ _ y _ => N - (intOf y).toNat)
    case atStart => exact ⟨0, by omega, rfl, by simp [end4], rfl, by simpa [ents4] using hO3.low hS2.below.size, by simpa [body4] using OwnG.nil _ _ _ _ _, (fun k h1 h2 => by cases h2), hX3⟩
    case round =>
      obtain ⟨j, hj, rfl, rfl, rfl, hB, hY, hA, hS⟩ := hrel
      clear hX3 hO3 hS3 hS2 HR0 HD m1 m2
      by_cases hjn : j < N
      · have hjn' : (j : Int) < N := by omega
        have hjL : j < TT.length := by rw [← HN.out]; exact hjn
        have hT : TT[j]? = some TT[j] := List.getElem?_eq_getElem hjL
        have hmem := List.mem_of_getElem? hT
        obtain ⟨hml, _⟩ := HF.out.2 _ hmem
        have hbT := HBY.out _ hmem
        have hs4 := HTS.out _ hmem
        have hk := List.take_succ_eq_append_getElem hjL
        have hpe := HE.out (j + 1)
        have hll := ents4_len (TT.take j) (12 + 16 * N) (fun T hT => HTS.out T (List.mem_of_mem_take hT))
        have hyl := body4_len (TT.take j) (12 + 16 * N)
        have hlj : (TT.take j).length ≤ j := List.length_take_le _ _
        have HT1 := Lib.hid (show end4 (12 + 16 * N) (TT.take (j + 1)) = end4 (12 + 16 * N) (TT.take j) + pad4 TT[j].data.length by rw [hk, end4_snoc])
        have HT2 := Lib.hid (show adj4 (-1) (12 + 16 * N) (TT.take (j + 1)) = if adjT TT[j] then (end4 (12 + 16 * N) (TT.take j) : Int) + 8 else adj4 (-1) (12 + 16 * N) (TT.take j) by rw [hk, adj4_snoc])
        have HT3 := Lib.hid (show dir4 N ++ ents4 (12 + 16 * N) (TT.take (j + 1)) = (((dir4 N ++ ents4 (12 + 16 * N) (TT.take j)) ++ tagB TT[j].tag ++ putL (sumI (blank4 TT[j])) 4) ++ putL (end4 (12 + 16 * N) (TT.take j) : Int) 4) ++ putL TT[j].data.length 4 by rw [hk, ents4_snoc]; unfold ent4; simp only [List.append_assoc])
        have HT4 := Lib.hid (show body4 (TT.take (j + 1)) = body4 (TT.take j) ++ padL (blank4 TT[j]) by rw [hk, body4_snoc])
        obtain ⟨b, o, A', c', rfl, hb, hc1, hc2, hK⟩ := h.row hT
        have hdl := blank4_len TT[j]
        have hdb := bytes_blank hbT
        have hHA := sf_has TT[j]
        have hUN := sf_unadj TT[j]
        have hBL : (dir4 N ++ ents4 (12 + 16 * N) (TT.take j)).length ≤ 1100 := by rw [List.length_append, dir4_len, hll]; omega
        have hYL : (body4 (TT.take j)).length ≤ 1048576 := by have := HE.out j; omega
        generalize TT[j] = T at *
        obtain ⟨s, L⟩ := T
        simp only at hml hc1 hc2 hs4 hbT hK HT1 HT3 hdl hHA hUN
        have c1 := (hS.1 _ _ hb).trans hc1
        have c2 := (hS.1 _ _ hb).trans hc2
        have hbw := hS.2.2.1 _ hb
        have hK := (hK.since (Nat.le_refl _) hS).more hS.below.size
        obtain ⟨n, hn0⟩ : ∃ n, n = L.length := ⟨_, rfl⟩
        rw [← hn0] at c2 hml HT1 HT3 hdl
        have hnI : (n : Int) ≤ 1000000 := by omega
        have HC : Hid (∀ w2, Since wr w2 → Calls Try.prog 47 #[.agg #[.string s, .slice A' n c']] w2 fun e w' => ∃ Ad cd, e = .returned (.slice Ad n cd) ∧ OwnB w' w2.heap.size (.slice Ad n cd) (blank4 ⟨s, L⟩) ∧ Since w2 w') := Lib.hid (fun w2 h2 => (hUN A' n c' w2 (hK.on h2) hn0 (by omega)).mono (by
          rintro e w' ⟨v, rfl, hO, hS⟩
          obtain ⟨Ad, cd, rfl, _, _⟩ := hO.rd (by omega) byL_len
          rw [hdl] at hO ⊢
          exact ⟨Ad, cd, rfl, hO, hS⟩))
        have HH := Lib.hid (fun w2 => hHA A' n c' w2 hn0 (by simp only [maxLen]; omega))
        have hsr := sumI_range (blank4 ⟨s, L⟩)
        have HSM := Lib.hid (fun Ad cd w2 hr => sf_sum Ad n cd (blank4 ⟨s, L⟩) w2 hr hdl.symm hdb (by omega))
        have HPD := Lib.hid (fun Ad cd w2 hr => sf_pad Ad n cd (blank4 ⟨s, L⟩) w2 hr hdl.symm (by omega))
        have HPL := Lib.hid (show (padL (blank4 ⟨s, L⟩)).length = pad4 n by rw [padL_len, hdl])
        have HPP := Lib.hid (fun w2 => sf_padded n w2 (by omega))
        have hp4 := pad4_le n
        have hpe : end4 (12 + 16 * N) (TT.take j) + pad4 n ≤ 1048576 := by rw [← HT1.out]; exact hpe
        generalize blank4 ⟨s, L⟩ = DL at *
        generalize sumI DL = sm at *
        generalize adjT ⟨s, L⟩ = g at *
        generalize end4 (12 + 16 * N) (TT.take j) = p at *
        generalize adj4 (-1) (12 + 16 * N) (TT.take j) = x at *
        generalize dir4 N ++ ents4 (12 + 16 * N) (TT.take j) = BL at *
        generalize body4 (TT.take j) = YL at *
        generalize pad4 n = pn at *
        have m1 : IntKind.i64.wrap sm = sm := by rw [IntKind.wrap_i64]; omega
        have m2 : IntKind.i64.wrap ((p : Int) + 8) = (p : Int) + 8 := by rw [IntKind.wrap_i64]; omega
        have m3 : IntKind.i64.wrap ((p : Int) + (pn : Int)) = (p : Int) + (pn : Int) := by rw [IntKind.wrap_i64]; omega
        have HP1 := Lib.hid (fun (w2 : World) => put_o 4 sm 4 w2 (by unfold In64; omega) rfl (by omega))
        have HP2 := Lib.hid (fun (w2 : World) => put_o 4 (p : Int) 4 w2 (by unfold In64; omega) rfl (by omega))
        have HP3 := Lib.hid (fun (w2 : World) => put_o 4 (n : Int) 4 w2 (by unfold In64; omega) rfl (by omega))
        have l1 : BL.length + s.size ≤ 140737488355328 := by omega
        have l2 : (BL ++ tagB s).length + (putL sm 4).length ≤ 140737488355328 := by rw [List.length_append, tagB_len, putL_len]; omega
        have l3 : (BL ++ tagB s ++ putL sm 4).length + (putL p 4).length ≤ 140737488355328 := by rw [List.length_append, List.length_append, tagB_len, putL_len, putL_len]; omega
        have l4 : (BL ++ tagB s ++ putL sm 4 ++ putL p 4).length + (putL n 4).length ≤ 140737488355328 := by rw [List.length_append, List.length_append, List.length_append, tagB_len, putL_len, putL_len, putL_len]; omega
        have l5 : YL.length + (padL DL).length ≤ 140737488355328 := by rw [HPL.out]; omega
        have e1 := Lib.hid (putL_len sm 4)
        have e2 := Lib.hid (putL_len (p : Int) 4)
        have e3 := Lib.hid (putL_len (n : Int) 4)
        clear hT h hc1 hc2 hjL hn0 hp4 hmem hk hll hyl hlj hHA hUN hdl hdb hBL hYL hbT hs4
        cases g

        · go_wp2_with (first | (go_at_call 47; (with_reducible refine (HC.out _ (by (repeat (first | with_reducible (exact Since.refl _) | with_reducible assumption | with_reducible (refine Since.drew ?_) | with_reducible (refine Since.drewN ?_ _) | with_reducible (refine Since.alloc ?_ _) | (with_reducible (refine Since.setCell ?_ ?_ _); rotate_left; focus (first | (simp; done) | (simp; omega) | omega)) | (with_reducible (refine Since.trans ?_ (by with_reducible assumption))))))).mono ?_); rintro e w2 ⟨Ad, cd, rfl, hOd, hSd⟩; obtain ⟨q1, q2, q3⟩ := two_tb hSd; have hXd : Since wr w2 := (by (repeat (first | with_reducible (exact Since.refl _) | with_reducible assumption | with_reducible (refine Since.drew ?_) | with_reducible (refine Since.drewN ?_ _) | with_reducible (refine Since.alloc ?_ _) | (with_reducible (refine Since.setCell ?_ ?_ _); rotate_left; focus (first | (simp; done) | (simp; omega) | omega)) | (with_reducible (refine Since.trans ?_ (by with_reducible assumption)))))); have hzw := hS.below.size; have HW : Wr4 w _ _ (.slice Ad n cd) BL YL DL wr.heap.size s A' n c' w2 := ⟨hB.since hXd, hY.since hXd, hOd.low (by simp; omega), hA, (fun q h1 h2 => by have a1 := hB.lt h1; have a2 := hOd.lt h2; simp at a2; omega), (fun q h1 h2 => by have a1 := hY.lt h1; have a2 := hOd.lt h2; simp at a2; omega), q1, q2, q3, (fun h1 => by have a1 := hB.lt h1; omega), (fun h1 => by have a1 := hY.lt h1; omega), hS.trans hXd⟩; clear hOd hSd) | (at_builtin; refine wpList_append_s rfl (.tmp 29) (.tmp 31) rfl HW.s _ BL (by rfl) HW.b s (by rfl) l1 ?_; intro v4 w4 hO4 hS4 hg4 hl4; have HW4 := HW.growB hO4 hS4 hg4 hl4) | (go_at_call 49; (with_reducible refine (HSM.out Ad cd _ (own_rdw HW4.d)).mono ?_); rintro e w5 ⟨rfl, hw5⟩; have hw6 := hw5.symm; subst hw6; clear hw5) | (go_at_call 48; (with_reducible refine (HP1.out _).mono ?_); rintro e w6 ⟨g6, rfl, hg6, hO6, hS6⟩; have HW6 := HW4.since hS6; have hr6 := own_rdw hO6) | (at_builtin; refine wpList_append_b4 rfl (.tmp 33) (.tmp 37) rfl HW6.s _ _ (by rfl) HW6.b _ (some ⟨g6, 0, none⟩) 4 4 (putL sm 4) e1.out.symm (by rfl) hr6 l2 ?_; intro v7 w7 hO7 hS7 hg7 hl7; have HW7 := HW6.growB hO7 hS7 hg7 hl7) | (go_at_call 48; (with_reducible refine (HP2.out _).mono ?_); rintro e w8 ⟨g8, rfl, hg8, hO8, hS8⟩; have HW8 := HW7.since hS8; have hr8 := own_rdw hO8) | (at_builtin; refine wpList_append_b4 rfl (.tmp 39) (.tmp 41) rfl HW8.s _ _ (by rfl) HW8.b _ (some ⟨g8, 0, none⟩) 4 4 (putL p 4) e2.out.symm (by rfl) hr8 l3 ?_; intro v9 w9 hO9 hS9 hg9 hl9; have HW9 := HW8.growB hO9 hS9 hg9 hl9) | (go_at_call 48; (with_reducible refine (HP3.out _).mono ?_); rintro e wa ⟨ga, rfl, hga, hOa, hSa⟩; have HWa := HW9.since hSa; have hra := own_rdw hOa) | (at_builtin; refine wpList_append_b4 rfl (.tmp 43) (.tmp 46) rfl HWa.s _ _ (by rfl) HWa.b _ (some ⟨ga, 0, none⟩) 4 4 (putL n 4) e3.out.symm (by rfl) hra l4 ?_; intro vb wb hOb hSb hgb hlb; have HWb := HWa.growB hOb hSb hgb hlb) | (go_at_call 50; (with_reducible refine (HPD.out Ad cd _ (own_rdw HWb.d)).mono ?_); rintro e wc ⟨gc, rfl, hgc, hrc, hSc⟩; have HWc := HWb.since hSc) | (at_builtin; refine wpList_append_b4 rfl (.tmp 48) (.tmp 50) rfl HWc.s _ _ (by rfl) HWc.y _ (some ⟨gc, 0, none⟩) pn pn (padL DL) HPL.out.symm (by rfl) hrc l5 ?_; intro vd wd hOd hSd hgd hld; have HWd := HWc.growY hOd hSd hgd hld; have u1 := HWd.x0; have u2 := HWd.x1; have u3 := HWd.xz) | (go_at_call 51; (with_reducible refine (HH.out _).mono ?_); rintro e we ⟨rfl, hwe⟩; have HWe := HWd.since hwe) | (go_at_call 52; (with_reducible refine (HPP.out _).mono ?_); rintro e wf ⟨rfl, hwf⟩; have hwg := hwf.symm; subst hwg; clear hwf))
          go_roundw
          case rel => first | exact ⟨j + 1, by omega, by first | rfl | go_num | simp, by rw [HT1.out]; first | rfl | go_num | simp, by rw [HT2.out]; first | rfl | simp, by rw [HT3.out]; exact HWe.b, by rw [HT4.out]; exact HWe.y, HWe.by_, HWe.s⟩ | ((repeat apply Exists.intro); refine ⟨?_, rfl⟩; exact ⟨j + 1, by omega, by first | rfl | go_num | simp, by rw [HT1.out]; first | rfl | go_num | simp, by rw [HT2.out]; first | rfl | simp, by rw [HT3.out]; exact HWe.b, by rw [HT4.out]; exact HWe.y, HWe.by_, HWe.s⟩)
          case measure => simp [intOf]; omega

        · go_wp2_with (first | (go_at_call 47; (with_reducible refine (HC.out _ (by (repeat (first | with_reducible (exact Since.refl _) | with_reducible assumption | with_reducible (refine Since.drew ?_) | with_reducible (refine Since.drewN ?_ _) | with_reducible (refine Since.alloc ?_ _) | (with_reducible (refine Since.setCell ?_ ?_ _); rotate_left; focus (first | (simp; done) | (simp; omega) | omega)) | (with_reducible (refine Since.trans ?_ (by with_reducible assumption))))))).mono ?_); rintro e w2 ⟨Ad, cd, rfl, hOd, hSd⟩; obtain ⟨q1, q2, q3⟩ := two_tb hSd; have hXd : Since wr w2 := (by (repeat (first | with_reducible (exact Since.refl _) | with_reducible assumption | with_reducible (refine Since.drew ?_) | with_reducible (refine Since.drewN ?_ _) | with_reducible (refine Since.alloc ?_ _) | (with_reducible (refine Since.setCell ?_ ?_ _); rotate_left; focus (first | (simp; done) | (simp; omega) | omega)) | (with_reducible (refine Since.trans ?_ (by with_reducible assumption)))))); have hzw := hS.below.size; have HW : Wr4 w _ _ (.slice Ad n cd) BL YL DL wr.heap.size s A' n c' w2 := ⟨hB.since hXd, hY.since hXd, hOd.low (by simp; omega), hA, (fun q h1 h2 => by have a1 := hB.lt h1; have a2 := hOd.lt h2; simp at a2; omega), (fun q h1 h2 => by have a1 := hY.lt h1; have a2 := hOd.lt h2; simp at a2; omega), q1, q2, q3, (fun h1 => by have a1 := hB.lt h1; omega), (fun h1 => by have a1 := hY.lt h1; omega), hS.trans hXd⟩; clear hOd hSd) | (at_builtin; refine wpList_append_s rfl (.tmp 29) (.tmp 31) rfl HW.s _ BL (by rfl) HW.b s (by rfl) l1 ?_; intro v4 w4 hO4 hS4 hg4 hl4; have HW4 := HW.growB hO4 hS4 hg4 hl4) | (go_at_call 49; (with_reducible refine (HSM.out Ad cd _ (own_rdw HW4.d)).mono ?_); rintro e w5 ⟨rfl, hw5⟩; have hw6 := hw5.symm; subst hw6; clear hw5) | (go_at_call 48; (with_reducible refine (HP1.out _).mono ?_); rintro e w6 ⟨g6, rfl, hg6, hO6, hS6⟩; have HW6 := HW4.since hS6; have hr6 := own_rdw hO6) | (at_builtin; refine wpList_append_b4 rfl (.tmp 33) (.tmp 37) rfl HW6.s _ _ (by rfl) HW6.b _ (some ⟨g6, 0, none⟩) 4 4 (putL sm 4) e1.out.symm (by rfl) hr6 l2 ?_; intro v7 w7 hO7 hS7 hg7 hl7; have HW7 := HW6.growB hO7 hS7 hg7 hl7) | (go_at_call 48; (with_reducible refine (HP2.out _).mono ?_); rintro e w8 ⟨g8, rfl, hg8, hO8, hS8⟩; have HW8 := HW7.since hS8; have hr8 := own_rdw hO8) | (at_builtin; refine wpList_append_b4 rfl (.tmp 39) (.tmp 41) rfl HW8.s _ _ (by rfl) HW8.b _ (some ⟨g8, 0, none⟩) 4 4 (putL p 4) e2.out.symm (by rfl) hr8 l3 ?_; intro v9 w9 hO9 hS9 hg9 hl9; have HW9 := HW8.growB hO9 hS9 hg9 hl9) | (go_at_call 48; (with_reducible refine (HP3.out _).mono ?_); rintro e wa ⟨ga, rfl, hga, hOa, hSa⟩; have HWa := HW9.since hSa; have hra := own_rdw hOa) | (at_builtin; refine wpList_append_b4 rfl (.tmp 43) (.tmp 46) rfl HWa.s _ _ (by rfl) HWa.b _ (some ⟨ga, 0, none⟩) 4 4 (putL n 4) e3.out.symm (by rfl) hra l4 ?_; intro vb wb hOb hSb hgb hlb; have HWb := HWa.growB hOb hSb hgb hlb) | (go_at_call 50; (with_reducible refine (HPD.out Ad cd _ (own_rdw HWb.d)).mono ?_); rintro e wc ⟨gc, rfl, hgc, hrc, hSc⟩; have HWc := HWb.since hSc) | (at_builtin; refine wpList_append_b4 rfl (.tmp 48) (.tmp 50) rfl HWc.s _ _ (by rfl) HWc.y _ (some ⟨gc, 0, none⟩) pn pn (padL DL) HPL.out.symm (by rfl) hrc l5 ?_; intro vd wd hOd hSd hgd hld; have HWd := HWc.growY hOd hSd hgd hld; have u1 := HWd.x0; have u2 := HWd.x1; have u3 := HWd.xz) | (go_at_call 51; (with_reducible refine (HH.out _).mono ?_); rintro e we ⟨rfl, hwe⟩; have HWe := HWd.since hwe) | (go_at_call 52; (with_reducible refine (HPP.out _).mono ?_); rintro e wf ⟨rfl, hwf⟩; have hwg := hwf.symm; subst hwg; clear hwf))
          go_roundw
          case rel => first | exact ⟨j + 1, by omega, by first | rfl | go_num | simp, by rw [HT1.out]; first | rfl | go_num | simp, by rw [HT2.out]; first | rfl | simp, by rw [HT3.out]; exact HWe.b, by rw [HT4.out]; exact HWe.y, HWe.by_, HWe.s⟩ | ((repeat apply Exists.intro); refine ⟨?_, rfl⟩; exact ⟨j + 1, by omega, by first | rfl | go_num | simp, by rw [HT1.out]; first | rfl | go_num | simp, by rw [HT2.out]; first | rfl | simp, by rw [HT3.out]; exact HWe.b, by rw [HT4.out]; exact HWe.y, HWe.by_, HWe.s⟩)
          case measure => simp [intOf]; omega

      · obtain rfl : N = j := by omega
        have hjn' : ¬ (N : Int) < (N : Int) := by omega
        have e : TT.take N = TT := by rw [HN.out]; exact List.take_length
        rw [e] at hB hY ⊢
        obtain ⟨Ay, cy, rfl, hcy, hry⟩ := hY.rd (by omega) byL_len
        have hl := HRL.out
        rw [HRW.out, List.length_append] at hl
        have hl1 : (dir4 N ++ ents4 (12 + 16 * N) TT).length + (body4 TT).length ≤ 140737488355328 := by omega
        have HPA := Lib.hid (fun (z : Int) (w2 : World) (hz : 0 ≤ z ∧ z < 4294967296) => put_o 4 z 4 w2 (by unfold In64; omega) rfl (by omega))
        have hsr := sumI_range (raw4 TT)
        have HSM := Lib.hid (fun Ad n cd w2 hr (hn : n = (raw4 TT).length) => sf_sum Ad n cd (raw4 TT) w2 hr hn HRB.out (by have := HRL.out; omega))
        have HAD := Lib.hid (fun w2 => ts_adjust (sumI (raw4 TT)) w2 hsr)
        have HRL := HRL.out
        have HAJ := HAJ.out
        clear hl hA HE HF HTS HBY HRB h e
        generalize dir4 N ++ ents4 (12 + 16 * N) TT = BL at *
        generalize body4 TT = YL at *
        generalize raw4 TT = R at *
        generalize adj4 (-1) (12 + 16 * N) TT = x at *
        obtain ⟨Z, hZ⟩ : ∃ Z, Z = R.length := ⟨_, rfl⟩
        have HZ := Lib.hid hZ
        rcases HAJ with hx | ⟨hx1, hx2⟩
        · have EF := Lib.hid (show file4 TT = R by rw [HFL.out, if_pos (by omega)])
          subst hx
          clear hZ HRL
          go_wp2_with (first | (at_builtin; refine wpList_append_b4 rfl (.tmp 62) (.tmp 63) rfl hS _ BL (by rfl) hB _ Ay YL.length cy YL rfl (by rfl) hry hl1 ?_; intro v7 w7 hO7 hS7 hg7 hl7))
          go_ret2
          exact ⟨_, rfl, by rw [EF.out, HRW.out]; exact hO7, hS7⟩
        · obtain ⟨q, rfl⟩ : ∃ q : Nat, x = q := ⟨x.toNat, by omega⟩
          have EF := Lib.hid (show file4 TT = layL R q (putL ((2981146554 - sumI R) % 4294967296) 4) by rw [HFL.out, if_neg (by omega), Int.toNat_natCast])
          have hqZ : q + 4 ≤ R.length := by omega
          have hq0 : (0 : Int) ≤ (q : Int) := by omega
          have HQZ := Lib.hid hqZ
          have hadr : 0 ≤ (2981146554 - sumI R) % 4294967296 ∧ (2981146554 - sumI R) % 4294967296 < 4294967296 := by omega
          generalize sumI R = sm at *
          obtain ⟨ad, had⟩ : ∃ ad, ad = (2981146554 - sm) % 4294967296 := ⟨_, rfl⟩
          rw [← had] at HAD hadr EF
          have m1 : IntKind.i64.wrap ad = ad := by rw [IntKind.wrap_i64]; omega
          have HPQ := Lib.hid (fun w2 => HPA.out ad w2 hadr)
          have hlp := Lib.hid (putL_len ad 4)
          clear hsr had hx1 hx2 HRL
          have hqI : (q : Int) ≤ (Z : Int) := by omega
          have h4Z : 4 ≤ Z - q := by omega
          clear hZ hqZ
          go_upto_region 21 with (first | (at_builtin; refine wpList_append_b4 rfl (.tmp 62) (.tmp 63) rfl hS _ BL (by rfl) hB _ Ay YL.length cy YL rfl (by rfl) hry hl1 ?_; intro v7 w7 hO7 hS7 hg7 hl7; rw [← HRW.out] at hO7; obtain ⟨A7, c7, rfl, hc7, hr7⟩ := hO7.rd (by omega) byL_len; rw [← HZ.out] at hO7 hc7 ⊢; obtain ⟨b7, o7, rfl, _, _⟩ := hr7 (by have := HQZ.out; omega); have ho := own_off hO7; subst ho; have hcI : (Z : Int) ≤ (c7 : Int) := (by omega); have hqc : ¬ q = c7 := (by omega)))
          have hqI2 : (q : Int) ≤ (c7 : Int) := by omega
          go_region_with (first | (go_at_call 49; (with_reducible refine (HSM.out _ _ _ _ (own_rdw (hO7.since ((Since.refl w7).drew))) HZ.out).mono ?_); rintro e w5 ⟨rfl, hw5⟩; subst hw5) | (go_at_call 53; (with_reducible refine (HAD.out _).mono ?_); rintro e w6 ⟨rfl, hw6⟩; subst hw6) | (go_at_call 48; (with_reducible refine (HPQ.out _).mono ?_); rintro e w9 ⟨g9, rfl, hg9, hO9, hS9⟩; have hb9 := (hO7.since ((Since.refl w7).drew)).since hS9; have hr9 := own_rdw hO9; have hcp := fun ty k x => copy4 hb9 HQZ.out hlp.out hr9 ty (Z - q) k h4Z x; have hlay := own_lay4 hb9 HQZ.out hlp.out; have hsl := since_lay4 (p := q) hlp.out ((hS7.drew).trans hS9) (hO7.lt rfl).1; generalize (putL ad 4).map (Value.int .u8) = cs4 at *))
          all_goals go_wp2_with fail
          all_goals go_ret2
          all_goals exact ⟨_, rfl, by rw [EF.out]; exact hlay, hsl⟩
  · have hG := rightG_no hR
    rw [hG] at HR0 ⊢
    rw [if_neg (by simp), if_neg (by simp)]
    clear h hf hb hN
    go_enter Try.func18, Try.ntmps18
    go_wp2_with (go_at_call 20; (with_reducible refine HR0.out.mono ?_); rintro e w2 ⟨rfl, hS2⟩)
    go_ret2
    exact ⟨_, rfl, OwnG.nil _ _ _ _ _, hS2⟩
end Go.Proofs.Ytpplnapfpoloiaa

/-
  Layer 4: the reference's Write, walked.
-/
namespace Go.Proofs.Ytpplnapfpoloiaa
open Go.RowKit Go.ChangeShapes Go.WideShapes Go.Deep
set_option linter.unusedVariables false
set_option linter.unusedSimpArgs false

theorem up4_eq {N k : Nat} (h1 : 2 ^ k ≤ N) (h2 : N < 2 * 2 ^ k) : up4 N = k := by
  have h0 : N ≠ 0 := by have := Nat.two_pow_pos k; omega
  unfold up4
  exact (Nat.log2_eq_iff h0).2 ⟨h1, by rw [Nat.pow_succ]; omega⟩
set_option maxRecDepth 1000000 in
set_option maxHeartbeats 32000000 in
theorem rf_write4 (A : Option Addr) (N c : Nat) (TT : List Tb) (w : World) (h : RdTL w w.heap.size A TT) (hN : N = TT.length) (hf : FewT TT) (hb : ∀ T, T ∈ TT → Bytes T.data) (hR : right4 TT) :
    Calls Try.prog 23 #[.slice A N c] w fun e w' => ∃ A' c', e = .returned (.slice A' (file4 TT).length c') ∧ RdB w' w'.heap.size A' (file4 TT) ∧ Since w w' := by
  obtain ⟨r1, r2, r3, r4, _⟩ := hR
  have hts : ∀ T, T ∈ TT → T.tag.size = 4 := fun T hT => by
    obtain ⟨j, hj⟩ := List.mem_iff_getElem?.1 hT
    exact (r4 j T hj).1
  have HTS := Lib.hid hts
  have HBY := Lib.hid hb
  have HF := Lib.hid hf
  have HN := Lib.hid hN
  have hNn : N ≤ 64 := by omega
  have hN1 : 1 ≤ N := by omega
  have hNI : (N : Int) ≤ 64 := by omega
  have HE := Lib.hid (fun j => Nat.le_trans (end4_take_le TT (12 + 16 * N) j) (by rw [hN]; exact r3 : end4 (12 + 16 * N) TT ≤ 1048576))
  have HRL := Lib.hid (show (raw4 TT).length ≤ 1048576 by rw [raw4_len hts]; exact r3)
  have HRB := Lib.hid (bytes_raw hb)
  have HAJ := Lib.hid (show adj4 (-1) (12 + 16 * N) TT = -1 ∨ ((12 + 16 * N : Nat) : Int) + 8 ≤ adj4 (-1) (12 + 16 * N) TT ∧ adj4 (-1) (12 + 16 * N) TT + 4 ≤ ((raw4 TT).length : Int) by rw [raw4_len hts]; unfold size4; rw [← hN]; exact adj4_ok TT (-1) (12 + 16 * N))
  have HFL := Lib.hid (show file4 TT = if adj4 (-1) (12 + 16 * N) TT < 0 then raw4 TT else layL (raw4 TT) (adj4 (-1) (12 + 16 * N) TT).toNat (putL ((2981146554 - sumI (raw4 TT)) % 4294967296) 4) by unfold file4; rw [← hN])
  have HRW := Lib.hid (show raw4 TT = dir4 N ++ ents4 (12 + 16 * N) TT ++ body4 TT by unfold raw4; rw [← hN])
  have ED := Lib.hid (show dir4 N = ((([0, 1, 0, 0] ++ putL N 2) ++ putL ((16 * 2 ^ up4 N : Nat) : Int) 2) ++ putL (up4 N) 2) ++ putL (((16 * N : Nat) : Int) - ((16 * 2 ^ up4 N : Nat) : Int)) 2 by unfold dir4; simp only [List.append_assoc]; rfl)
  have HPT := Lib.hid (fun (v : Value) (L : List Int) (x : Int) (k : Nat) (y : Int) (w2 : World) (hS : Since w w2) (hO : OwnB w2 w.heap.size v L) (hx : In64 x) (hy : y = k) (hk : k ≤ 8) (hL : L.length ≤ 2000000) => rf_put4 hS hO x k y hx hy hk hL)
  clear hf hb hts r1 r2 r3 r4 hN
  go_enter Try.func23, Try.ntmps23
  go_wp2_with fail
  go_loopw [3, 4] (fun vp vk wr => ∃ (k p : Nat), k ≤ 6 ∧ Hid (p = 2 ^ k) ∧ 1 ≤ p ∧ p ≤ N ∧ vp = .int .i64 (p : Int) ∧ vk = .int .i64 (k : Int) ∧ Since w wr) (fun vp _ _ => N - (intOf vp).toNat)
  case atStart => exact ⟨0, 1, by omega, Lib.hid rfl, by omega, by omega, rfl, rfl, Since.refl _⟩
  case round =>
    obtain ⟨k, p, hk, HK, hp1, hpN, rfl, rfl, hS0⟩ := hrel
    have m1 : IntKind.i64.wrap (2 * (p : Int)) = 2 * (p : Int) := by rw [IntKind.wrap_i64]; omega
    have m2 : IntKind.i64.wrap ((k : Int) + 1) = (k : Int) + 1 := by rw [IntKind.wrap_i64]; omega
    by_cases h2 : 2 * p ≤ N
    · have d1 : 2 * (p : Int) ≤ (N : Int) := by omega
      have hk6 : k + 1 ≤ 6 := by
        have : k = 6 ∨ k < 6 := by omega
        rcases this with rfl | h3
        · have := HK.out; omega
        · omega
      have HK2 : Hid (2 * p = 2 ^ (k + 1)) := Lib.hid (by rw [HK.out, Nat.pow_succ]; omega)
      go_wp2_with fail
      go_roundw
      case rel => first | exact ⟨k + 1, 2 * p, hk6, HK2, by omega, by omega, by first | rfl | go_num | simp, by first | rfl | go_num | simp, hS0⟩ | ((repeat apply Exists.intro); refine ⟨?_, rfl⟩; exact ⟨k + 1, 2 * p, hk6, HK2, by omega, by omega, by first | rfl | go_num | simp, by first | rfl | go_num | simp, hS0⟩)
      case measure => simp [intOf]; omega
    · have d1 : ¬ 2 * (p : Int) ≤ (N : Int) := by omega
      have hup := up4_eq (N := N) (k := k) (by rw [← HK.out]; exact hpN) (by rw [← HK.out]; omega)
      have hpn : (16 * 2 ^ k : Nat) = 16 * p := by rw [HK.out]
      rw [hup, hpn] at ED
      have hpI : (p : Int) ≤ (N : Int) := by omega
      have m3 : IntKind.i64.wrap (16 * (p : Int)) = 16 * (p : Int) := by rw [IntKind.wrap_i64]; omega
      have m4 : IntKind.i64.wrap (16 * (N : Int)) = 16 * (N : Int) := by rw [IntKind.wrap_i64]; omega
      have m5 : IntKind.i64.wrap (16 * (N : Int) - 16 * (p : Int)) = 16 * (N : Int) - 16 * (p : Int) := by rw [IntKind.wrap_i64]; omega
      have m6 : IntKind.i64.wrap (12 + 16 * (N : Int)) = 12 + 16 * (N : Int) := by rw [IntKind.wrap_i64]; omega
      have ED2 := Lib.hid (show dir4 N = ((([0, 1, 0, 0] ++ putL N 2) ++ putL (16 * (p : Int)) 2) ++ putL (k : Int) 2) ++ putL (16 * (N : Int) - 16 * (p : Int)) 2 by have := ED.out; simpa using this)
      have i1 : In64 (N : Int) := by unfold In64; omega
      have i2 : In64 (16 * (p : Int)) := by unfold In64; omega
      have i3 : In64 (k : Int) := by unfold In64; omega
      have i4 : In64 (16 * (N : Int) - 16 * (p : Int)) := by unfold In64; omega
      have hO0 := ownB_new wr w.heap.size wr.heap.size 4 rfl hS0.below.size #[.int .u8 0, .int .u8 1, .int .u8 0, .int .u8 0] [0, 1, 0, 0] rfl rfl (by simp)
      have L0 : ([0, 1, 0, 0] : List Int).length ≤ 2000000 := by simp
      have L1 : (([0, 1, 0, 0] : List Int) ++ putL N 2).length ≤ 2000000 := by rw [List.length_append, putL_len]; simp
      have L2 : ((([0, 1, 0, 0] : List Int) ++ putL N 2) ++ putL (16 * (p : Int)) 2).length ≤ 2000000 := by rw [List.length_append, List.length_append, putL_len, putL_len]; simp
      have L3 : (((([0, 1, 0, 0] : List Int) ++ putL N 2) ++ putL (16 * (p : Int)) 2) ++ putL (k : Int) 2).length ≤ 2000000 := by rw [List.length_append, List.length_append, List.length_append, putL_len, putL_len, putL_len]; simp
      clear ED hup hpn
      generalize ([0, 1, 0, 0] : List Int) = Z4 at *
      go_wp2_with (first | (go_at_call 57; (with_reducible refine (HPT.out _ Z4 (N : Int) 2 2 _ (by (repeat (first | with_reducible (exact Since.refl _) | with_reducible assumption | with_reducible (refine Since.drew ?_) | with_reducible (refine Since.drewN ?_ _) | with_reducible (refine Since.alloc ?_ _) | (with_reducible (refine Since.setCell ?_ ?_ _); rotate_left; focus (first | (simp; done) | (simp; omega) | omega)) | (with_reducible (refine Since.trans ?_ (by with_reducible assumption)))))) hO0 i1 rfl (by omega) L0).mono ?_); rintro e w2 ⟨v2, w1, rfl, hO2, hS2, _, _, _⟩; clear hO0) | (go_at_call 57; (with_reducible refine (HPT.out _ _ (16 * (p : Int)) 2 2 _ hS2 hO2 i2 rfl (by omega) L1).mono ?_); rintro e w3 ⟨v3, w1, rfl, hO3, hS3, _, _, _⟩; clear hO2) | (go_at_call 57; (with_reducible refine (HPT.out _ _ (k : Int) 2 2 _ hS3 hO3 i3 rfl (by omega) L2).mono ?_); rintro e w4 ⟨v4, w1, rfl, hO4, hS4, _, _, _⟩; clear hO3) | (go_at_call 57; (with_reducible refine (HPT.out _ _ (16 * (N : Int) - 16 * (p : Int)) 2 2 _ hS4 hO4 i4 rfl (by omega) L3).mono ?_); rintro e w5 ⟨v5, w1, rfl, hO5, hS5, _, _, _⟩; clear hO4; rw [← ED2.out] at hO5))
      clear m1 m2 m3 m4 m5 m6 L0 L1 L2 L3 i1 i2 i3 i4 ED2 HK hk hp1 hpN hpI d1 h2 hS2 hS3 hS4
      go_loopw [5, 6, 7, 48] (fun vb vp va y wr => ∃ (j : Nat), j ≤ N ∧ y = .int .i64 (j : Int) ∧ vp = .int .i64 (end4 (12 + 16 * N) (TT.take j) : Int) ∧ va = .int .i64 (adj4 (-1) (12 + 16 * N) (TT.take j)) ∧ OwnB wr w.heap.size vb (dir4 N ++ ents4 (12 + 16 * N) (TT.take j)) ∧ Since w wr) (fun _ _ _ y _ => N - (intOf y).toNat)
      case atStart => exact ⟨0, by omega, rfl, by simp [end4], rfl, by simpa [ents4] using hO5, hS5⟩
      case round =>
        obtain ⟨j, hj, rfl, rfl, rfl, hB, hS⟩ := hrel
        clear hO5 hS5 hS0
        by_cases hjn : j < N
        · have hjn' : (j : Int) < N := by omega
          have hjL : j < TT.length := by rw [← HN.out]; exact hjn
          have hT : TT[j]? = some TT[j] := List.getElem?_eq_getElem hjL
          have hmem := List.mem_of_getElem? hT
          obtain ⟨hml, _⟩ := HF.out.2 _ hmem
          have hbT := HBY.out _ hmem
          have hs4 := HTS.out _ hmem
          have hk := List.take_succ_eq_append_getElem hjL
          have hpe := HE.out (j + 1)
          have hll := ents4_len (TT.take j) (12 + 16 * N) (fun T hT => HTS.out T (List.mem_of_mem_take hT))
          have hlj : (TT.take j).length ≤ j := List.length_take_le _ _
          have HT1 := Lib.hid (show end4 (12 + 16 * N) (TT.take (j + 1)) = end4 (12 + 16 * N) (TT.take j) + pad4 TT[j].data.length by rw [hk, end4_snoc])
          have HT2 := Lib.hid (show adj4 (-1) (12 + 16 * N) (TT.take (j + 1)) = if adjT TT[j] then (end4 (12 + 16 * N) (TT.take j) : Int) + 8 else adj4 (-1) (12 + 16 * N) (TT.take j) by rw [hk, adj4_snoc])
          have HT3 := Lib.hid (show dir4 N ++ ents4 (12 + 16 * N) (TT.take (j + 1)) = (((dir4 N ++ ents4 (12 + 16 * N) (TT.take j)) ++ tagB TT[j].tag ++ putL (sumI (blank4 TT[j])) 4) ++ putL (end4 (12 + 16 * N) (TT.take j) : Int) 4) ++ putL TT[j].data.length 4 by rw [hk, ents4_snoc]; unfold ent4; simp only [List.append_assoc])
          obtain ⟨b, o, A', c', rfl, hb, hc1, hc2, hK⟩ := h.row hT
          have hdl := blank4_len TT[j]
          have hdb := bytes_blank hbT
          have hUN := rf_blank TT[j]
          have hAD : adjT TT[j] = ((TT[j].tag.toList == [104, 101, 97, 100]) && decide (12 ≤ TT[j].data.length)) := rfl
          have hBL : (dir4 N ++ ents4 (12 + 16 * N) (TT.take j)).length ≤ 1100 := by rw [List.length_append, dir4_len, hll]; omega
          generalize TT[j] = T at *
          obtain ⟨s, L⟩ := T
          simp only at hml hc1 hc2 hs4 hbT hK HT1 HT3 hdl hUN hAD
          have c1 := (hS.1 _ _ hb).trans hc1
          have c2 := (hS.1 _ _ hb).trans hc2
          have hbw := hS.2.2.1 _ hb
          have hK := (hK.since (Nat.le_refl _) hS).more hS.below.size
          obtain ⟨n, hn0⟩ : ∃ n, n = L.length := ⟨_, rfl⟩
          rw [← hn0] at c2 hml HT1 HT3 hdl hAD
          have hnI : (n : Int) ≤ 1000000 := by omega
          have HC : Hid (∀ w2, Since wr w2 → Calls Try.prog 25 #[.agg #[.string s, .slice A' n c']] w2 fun e w' => ∃ Ad cd, e = .returned (.slice Ad n cd) ∧ OwnB w' w2.heap.size (.slice Ad n cd) (blank4 ⟨s, L⟩) ∧ Since w2 w') := Lib.hid (fun w2 h2 => (hUN A' n c' w2 (hK.on h2) hn0 (by omega)).mono (by
            rintro e w' ⟨v, rfl, hO, hS⟩
            obtain ⟨Ad, cd, rfl, _, _⟩ := hO.rd (by omega) byL_len
            rw [hdl] at hO ⊢
            exact ⟨Ad, cd, rfl, hO, hS⟩))
          have hsr := sumI_range (blank4 ⟨s, L⟩)
          have HSM := Lib.hid (fun Ad cd w2 hr => rf_sum4 Ad n cd (blank4 ⟨s, L⟩) w2 hr hdl.symm hdb (by omega))
          have HPD := Lib.hid (fun Ad cd w2 hr => rf_pad Ad n cd (blank4 ⟨s, L⟩) w2 hr hdl.symm (by omega))
          have hp4 := pad4_le n
          have hpe : end4 (12 + 16 * N) (TT.take j) + pad4 n ≤ 1048576 := by rw [← HT1.out]; exact hpe
          have hcase : ((s.toList == [104, 101, 97, 100]) = false ∧ adjT ⟨s, L⟩ = false) ∨ (s.toList = [104, 101, 97, 100] ∧ 12 ≤ n ∧ adjT ⟨s, L⟩ = true) ∨ (s.toList = [104, 101, 97, 100] ∧ ¬ 12 ≤ n ∧ adjT ⟨s, L⟩ = false) := by
            rw [hAD]
            by_cases h1 : s.toList = [104, 101, 97, 100]
            · by_cases h2 : 12 ≤ n
              · right; left; exact ⟨h1, h2, by rw [h1]; simp [h2]⟩
              · right; right; exact ⟨h1, h2, by rw [h1]; simp [h2]⟩
            · left
              have h3 : (s.toList == [104, 101, 97, 100]) = false := by simpa using h1
              exact ⟨h3, by rw [h3]; rfl⟩
          generalize blank4 ⟨s, L⟩ = DL at *
          generalize sumI DL = sm at *
          generalize adjT ⟨s, L⟩ = g at *
          generalize end4 (12 + 16 * N) (TT.take j) = p at *
          generalize adj4 (-1) (12 + 16 * N) (TT.take j) = x at *
          generalize dir4 N ++ ents4 (12 + 16 * N) (TT.take j) = BL at *
          generalize pad4 n = pn at *
          have m1 : IntKind.i64.wrap sm = sm := by rw [IntKind.wrap_i64]; omega
          have m2 : IntKind.i64.wrap ((p : Int) + 8) = (p : Int) + 8 := by rw [IntKind.wrap_i64]; omega
          have m3 : IntKind.i64.wrap ((p : Int) + (pn : Int)) = (p : Int) + (pn : Int) := by rw [IntKind.wrap_i64]; omega
          have i1 : In64 sm := by unfold In64; omega
          have i2 : In64 (p : Int) := by unfold In64; omega
          have i3 : In64 (n : Int) := by unfold In64; omega
          have l1 : BL.length + (tagB s).length ≤ 140737488355328 := by rw [tagB_len]; omega
          have l2 : (BL ++ tagB s).length ≤ 2000000 := by rw [List.length_append, tagB_len]; omega
          have l3 : (BL ++ tagB s ++ putL sm 4).length ≤ 2000000 := by rw [List.length_append, List.length_append, tagB_len, putL_len]; omega
          have l4 : (BL ++ tagB s ++ putL sm 4 ++ putL p 4).length ≤ 2000000 := by rw [List.length_append, List.length_append, List.length_append, tagB_len, putL_len, putL_len]; omega
          have e1 := Lib.hid (tagB_len s)
          have hcv := fun (w2 : World) => run_bytes_of_string (P := Try.prog) w2 9 26 5 s Try.underlying9 Try.underlying26 Try.underlying5
          clear hT h hc1 hc2 hjL hn0 hp4 hmem hk hll hlj hUN hdl hdb hBL hbT hs4 hAD
          rcases hcase with ⟨hb2, rfl⟩ | ⟨hb2, h12, rfl⟩ | ⟨hb2, h12, rfl⟩
          · have hb3 : ¬ s.toList = [104, 101, 97, 100] := by simpa using hb2
            clear hb2
            go_wp2_with (first | (go_at_call 25; (with_reducible refine (HC.out _ (by (repeat (first | with_reducible (exact Since.refl _) | with_reducible assumption | with_reducible (refine Since.drew ?_) | with_reducible (refine Since.drewN ?_ _) | with_reducible (refine Since.alloc ?_ _) | (with_reducible (refine Since.setCell ?_ ?_ _); rotate_left; focus (first | (simp; done) | (simp; omega) | omega)) | (with_reducible (refine Since.trans ?_ (by with_reducible assumption))))))).mono ?_); rintro e w2 ⟨Ad, cd, rfl, hOd, hSd⟩; obtain ⟨q1, q2, q3⟩ := two_tb hSd; have hXd : Since wr w2 := (by (repeat (first | with_reducible (exact Since.refl _) | with_reducible assumption | with_reducible (refine Since.drew ?_) | with_reducible (refine Since.drewN ?_ _) | with_reducible (refine Since.alloc ?_ _) | (with_reducible (refine Since.setCell ?_ ?_ _); rotate_left; focus (first | (simp; done) | (simp; omega) | omega)) | (with_reducible (refine Since.trans ?_ (by with_reducible assumption)))))); have hzw := hS.below.size; have HW : Wr4 w _ (.slice none 0 0) (.slice Ad n cd) BL [] DL wr.heap.size s A' n c' w2 := ⟨hB.since hXd, OwnG.nil _ _ _ _ _, hOd.low (by simp; omega), (fun q h1 h2 => by cases h2), (fun q h1 h2 => by have a1 := hB.lt h1; have a2 := hOd.lt h2; simp at a2; omega), (fun q h1 h2 => by cases h1), q1, q2, q3, (fun h1 => by have a1 := hB.lt h1; omega), (fun h1 => by cases h1), hS.trans hXd⟩; clear hOd hSd) | (at_builtin; refine wpList_append_b4 rfl (.tmp 54) (.tmp 57) (by rfl) (HW.since (((Since.refl w2).drew).alloc _)).s _ BL (by rfl) (HW.since (((Since.refl w2).drew).alloc _)).b _ (some ⟨w2.heap.size, 0, none⟩) s.size _ (tagB s) e1.out.symm (by rfl) (rdb_str w2 s _ _ rfl _ _) l1 ?_; intro v4 w4 hO4 hS4 hg4 hl4; have HW4 := (HW.since (((Since.refl w2).drew).alloc _)).growB hO4 hS4 hg4 hl4) | (go_at_call 27; (with_reducible refine (HSM.out Ad cd _ (own_rdw HW4.d)).mono ?_); rintro e w5 ⟨rfl, hw5⟩; have hw6 := hw5.symm; subst hw6; clear hw5) | (go_at_call 57; (with_reducible refine (HPT.out _ _ sm 4 4 _ HW4.s HW4.b i1 rfl (by omega) l2).mono ?_); rintro e w7 ⟨v7, w6, rfl, hO7, hS7, hS6, hg7, hl7⟩; have HW7 := (HW4.since hS6).growB hO7 hS7 hg7 hl7) | (go_at_call 57; (with_reducible refine (HPT.out _ _ (p : Int) 4 4 _ HW7.s HW7.b i2 rfl (by omega) l3).mono ?_); rintro e w9 ⟨v9, w8, rfl, hO9, hS9, hS8, hg9, hl9⟩; have HW9 := (HW7.since hS8).growB hO9 hS9 hg9 hl9) | (go_at_call 57; (with_reducible refine (HPT.out _ _ (n : Int) 4 4 _ HW9.s HW9.b i3 rfl (by omega) l4).mono ?_); rintro e wb ⟨vb, wa, rfl, hOb, hSb, hSa, hgb, hlb⟩; have HWb := (HW9.since hSa).growB hOb hSb hgb hlb; have u1 := HWb.x0; have u2 := HWb.x1; have u3 := HWb.xz) | (go_at_call 58; (with_reducible refine (HPD.out Ad cd _ (own_rdw HWb.d)).mono ?_); rintro e wc ⟨gc, dc, rfl, hgc, hrc, hSc⟩; have HWc := HWb.since hSc))
            go_roundw
            case rel => first | exact ⟨j + 1, by omega, by first | rfl | go_num | simp, by rw [HT1.out]; first | rfl | go_num | simp, by rw [HT2.out]; first | rfl | simp, by rw [HT3.out]; exact HWc.b, HWc.s⟩ | ((repeat apply Exists.intro); refine ⟨?_, rfl⟩; exact ⟨j + 1, by omega, by first | rfl | go_num | simp, by rw [HT1.out]; first | rfl | go_num | simp, by rw [HT2.out]; first | rfl | simp, by rw [HT3.out]; exact HWc.b, HWc.s⟩)
            case measure => simp [intOf]; omega
          · have d1 : decide ((12 : Int) ≤ (n : Int)) = true := by simp; omega
            have d2 : (12 : Int) ≤ (n : Int) := by omega
            go_wp2_with (first | (go_at_call 25; (with_reducible refine (HC.out _ (by (repeat (first | with_reducible (exact Since.refl _) | with_reducible assumption | with_reducible (refine Since.drew ?_) | with_reducible (refine Since.drewN ?_ _) | with_reducible (refine Since.alloc ?_ _) | (with_reducible (refine Since.setCell ?_ ?_ _); rotate_left; focus (first | (simp; done) | (simp; omega) | omega)) | (with_reducible (refine Since.trans ?_ (by with_reducible assumption))))))).mono ?_); rintro e w2 ⟨Ad, cd, rfl, hOd, hSd⟩; obtain ⟨q1, q2, q3⟩ := two_tb hSd; have hXd : Since wr w2 := (by (repeat (first | with_reducible (exact Since.refl _) | with_reducible assumption | with_reducible (refine Since.drew ?_) | with_reducible (refine Since.drewN ?_ _) | with_reducible (refine Since.alloc ?_ _) | (with_reducible (refine Since.setCell ?_ ?_ _); rotate_left; focus (first | (simp; done) | (simp; omega) | omega)) | (with_reducible (refine Since.trans ?_ (by with_reducible assumption)))))); have hzw := hS.below.size; have HW : Wr4 w _ (.slice none 0 0) (.slice Ad n cd) BL [] DL wr.heap.size s A' n c' w2 := ⟨hB.since hXd, OwnG.nil _ _ _ _ _, hOd.low (by simp; omega), (fun q h1 h2 => by cases h2), (fun q h1 h2 => by have a1 := hB.lt h1; have a2 := hOd.lt h2; simp at a2; omega), (fun q h1 h2 => by cases h1), q1, q2, q3, (fun h1 => by have a1 := hB.lt h1; omega), (fun h1 => by cases h1), hS.trans hXd⟩; clear hOd hSd) | (at_builtin; refine wpList_append_b4 rfl (.tmp 54) (.tmp 57) (by rfl) (HW.since (((Since.refl w2).drew).alloc _)).s _ BL (by rfl) (HW.since (((Since.refl w2).drew).alloc _)).b _ (some ⟨w2.heap.size, 0, none⟩) s.size _ (tagB s) e1.out.symm (by rfl) (rdb_str w2 s _ _ rfl _ _) l1 ?_; intro v4 w4 hO4 hS4 hg4 hl4; have HW4 := (HW.since (((Since.refl w2).drew).alloc _)).growB hO4 hS4 hg4 hl4) | (go_at_call 27; (with_reducible refine (HSM.out Ad cd _ (own_rdw HW4.d)).mono ?_); rintro e w5 ⟨rfl, hw5⟩; have hw6 := hw5.symm; subst hw6; clear hw5) | (go_at_call 57; (with_reducible refine (HPT.out _ _ sm 4 4 _ HW4.s HW4.b i1 rfl (by omega) l2).mono ?_); rintro e w7 ⟨v7, w6, rfl, hO7, hS7, hS6, hg7, hl7⟩; have HW7 := (HW4.since hS6).growB hO7 hS7 hg7 hl7) | (go_at_call 57; (with_reducible refine (HPT.out _ _ (p : Int) 4 4 _ HW7.s HW7.b i2 rfl (by omega) l3).mono ?_); rintro e w9 ⟨v9, w8, rfl, hO9, hS9, hS8, hg9, hl9⟩; have HW9 := (HW7.since hS8).growB hO9 hS9 hg9 hl9) | (go_at_call 57; (with_reducible refine (HPT.out _ _ (n : Int) 4 4 _ HW9.s HW9.b i3 rfl (by omega) l4).mono ?_); rintro e wb ⟨vb, wa, rfl, hOb, hSb, hSa, hgb, hlb⟩; have HWb := (HW9.since hSa).growB hOb hSb hgb hlb; have u1 := HWb.x0; have u2 := HWb.x1; have u3 := HWb.xz) | (go_at_call 58; (with_reducible refine (HPD.out Ad cd _ (own_rdw HWb.d)).mono ?_); rintro e wc ⟨gc, dc, rfl, hgc, hrc, hSc⟩; have HWc := HWb.since hSc))
            go_roundw
            case rel => first | exact ⟨j + 1, by omega, by first | rfl | go_num | simp, by rw [HT1.out]; first | rfl | go_num | simp, by rw [HT2.out]; first | rfl | simp, by rw [HT3.out]; exact HWc.b, HWc.s⟩ | ((repeat apply Exists.intro); refine ⟨?_, rfl⟩; exact ⟨j + 1, by omega, by first | rfl | go_num | simp, by rw [HT1.out]; first | rfl | go_num | simp, by rw [HT2.out]; first | rfl | simp, by rw [HT3.out]; exact HWc.b, HWc.s⟩)
            case measure => simp [intOf]; omega
          · have d1 : decide ((12 : Int) ≤ (n : Int)) = false := by simp; omega
            have d2 : ¬ (12 : Int) ≤ (n : Int) := by omega
            go_wp2_with (first | (go_at_call 25; (with_reducible refine (HC.out _ (by (repeat (first | with_reducible (exact Since.refl _) | with_reducible assumption | with_reducible (refine Since.drew ?_) | with_reducible (refine Since.drewN ?_ _) | with_reducible (refine Since.alloc ?_ _) | (with_reducible (refine Since.setCell ?_ ?_ _); rotate_left; focus (first | (simp; done) | (simp; omega) | omega)) | (with_reducible (refine Since.trans ?_ (by with_reducible assumption))))))).mono ?_); rintro e w2 ⟨Ad, cd, rfl, hOd, hSd⟩; obtain ⟨q1, q2, q3⟩ := two_tb hSd; have hXd : Since wr w2 := (by (repeat (first | with_reducible (exact Since.refl _) | with_reducible assumption | with_reducible (refine Since.drew ?_) | with_reducible (refine Since.drewN ?_ _) | with_reducible (refine Since.alloc ?_ _) | (with_reducible (refine Since.setCell ?_ ?_ _); rotate_left; focus (first | (simp; done) | (simp; omega) | omega)) | (with_reducible (refine Since.trans ?_ (by with_reducible assumption)))))); have hzw := hS.below.size; have HW : Wr4 w _ (.slice none 0 0) (.slice Ad n cd) BL [] DL wr.heap.size s A' n c' w2 := ⟨hB.since hXd, OwnG.nil _ _ _ _ _, hOd.low (by simp; omega), (fun q h1 h2 => by cases h2), (fun q h1 h2 => by have a1 := hB.lt h1; have a2 := hOd.lt h2; simp at a2; omega), (fun q h1 h2 => by cases h1), q1, q2, q3, (fun h1 => by have a1 := hB.lt h1; omega), (fun h1 => by cases h1), hS.trans hXd⟩; clear hOd hSd) | (at_builtin; refine wpList_append_b4 rfl (.tmp 54) (.tmp 57) (by rfl) (HW.since (((Since.refl w2).drew).alloc _)).s _ BL (by rfl) (HW.since (((Since.refl w2).drew).alloc _)).b _ (some ⟨w2.heap.size, 0, none⟩) s.size _ (tagB s) e1.out.symm (by rfl) (rdb_str w2 s _ _ rfl _ _) l1 ?_; intro v4 w4 hO4 hS4 hg4 hl4; have HW4 := (HW.since (((Since.refl w2).drew).alloc _)).growB hO4 hS4 hg4 hl4) | (go_at_call 27; (with_reducible refine (HSM.out Ad cd _ (own_rdw HW4.d)).mono ?_); rintro e w5 ⟨rfl, hw5⟩; have hw6 := hw5.symm; subst hw6; clear hw5) | (go_at_call 57; (with_reducible refine (HPT.out _ _ sm 4 4 _ HW4.s HW4.b i1 rfl (by omega) l2).mono ?_); rintro e w7 ⟨v7, w6, rfl, hO7, hS7, hS6, hg7, hl7⟩; have HW7 := (HW4.since hS6).growB hO7 hS7 hg7 hl7) | (go_at_call 57; (with_reducible refine (HPT.out _ _ (p : Int) 4 4 _ HW7.s HW7.b i2 rfl (by omega) l3).mono ?_); rintro e w9 ⟨v9, w8, rfl, hO9, hS9, hS8, hg9, hl9⟩; have HW9 := (HW7.since hS8).growB hO9 hS9 hg9 hl9) | (go_at_call 57; (with_reducible refine (HPT.out _ _ (n : Int) 4 4 _ HW9.s HW9.b i3 rfl (by omega) l4).mono ?_); rintro e wb ⟨vb, wa, rfl, hOb, hSb, hSa, hgb, hlb⟩; have HWb := (HW9.since hSa).growB hOb hSb hgb hlb; have u1 := HWb.x0; have u2 := HWb.x1; have u3 := HWb.xz) | (go_at_call 58; (with_reducible refine (HPD.out Ad cd _ (own_rdw HWb.d)).mono ?_); rintro e wc ⟨gc, dc, rfl, hgc, hrc, hSc⟩; have HWc := HWb.since hSc))
            go_roundw
            case rel => first | exact ⟨j + 1, by omega, by first | rfl | go_num | simp, by rw [HT1.out]; first | rfl | go_num | simp, by rw [HT2.out]; first | rfl | simp, by rw [HT3.out]; exact HWc.b, HWc.s⟩ | ((repeat apply Exists.intro); refine ⟨?_, rfl⟩; exact ⟨j + 1, by omega, by first | rfl | go_num | simp, by rw [HT1.out]; first | rfl | go_num | simp, by rw [HT2.out]; first | rfl | simp, by rw [HT3.out]; exact HWc.b, HWc.s⟩)
            case measure => simp [intOf]; omega
        · obtain rfl : N = j := by omega
          have hjn' : ¬ (N : Int) < (N : Int) := by omega
          have e : TT.take N = TT := by rw [HN.out]; exact List.take_length
          rw [e] at hB ⊢
          have HRW2 := Lib.hid (show raw4 TT = (dir4 N ++ ents4 (12 + 16 * N) TT) ++ body4 TT from HRW.out)
          have hBl : (dir4 N ++ ents4 (12 + 16 * N) TT).length + (body4 TT).length ≤ 1048576 := by have := HRL.out; rw [HRW.out, List.length_append] at this; exact this
          generalize dir4 N ++ ents4 (12 + 16 * N) TT = BL at *
          clear HRW hj e
          go_wp2_with fail
          go_loopw [5, 89] (fun vb y wx => ∃ (j : Nat), j ≤ N ∧ y = .int .i64 (j : Int) ∧ OwnB wx w.heap.size vb (BL ++ body4 (TT.take j)) ∧ Since w wx) (fun _ y _ => N - (intOf y).toNat)
          case atStart => exact ⟨0, by omega, rfl, by simpa [body4] using hB, hS⟩
          case round =>
            obtain ⟨j, hj, rfl, hO, hSx⟩ := hrel
            clear hB hS
            by_cases hjn : j < N
            · have hjn' : (j : Int) < N := by omega
              have hjL : j < TT.length := by rw [← HN.out]; exact hjn
              have hT : TT[j]? = some TT[j] := List.getElem?_eq_getElem hjL
              have hmem := List.mem_of_getElem? hT
              obtain ⟨hml, _⟩ := HF.out.2 _ hmem
              have hk := List.take_succ_eq_append_getElem hjL
              have hpe := HE.out (j + 1)
              have hyl := body4_len (TT.take (j + 1)) (12 + 16 * N)
              have HT4 := Lib.hid (show body4 (TT.take (j + 1)) = body4 (TT.take j) ++ padL (blank4 TT[j]) by rw [hk, body4_snoc])
              have hl4 : (body4 (TT.take j)).length + (padL (blank4 TT[j])).length ≤ 1048576 := by rw [← List.length_append, ← HT4.out]; omega
              obtain ⟨b, o, A', c', rfl, hb, hc1, hc2, hK⟩ := h.row hT
              have hdl := blank4_len TT[j]
              have hUN := rf_blank TT[j]
              generalize TT[j] = T at *
              obtain ⟨s, L⟩ := T
              simp only at hml hc1 hc2 hK hdl hUN
              have c1 := (hSx.1 _ _ hb).trans hc1
              have c2 := (hSx.1 _ _ hb).trans hc2
              have hbw := hSx.2.2.1 _ hb
              have hK := (hK.since (Nat.le_refl _) hSx).more hSx.below.size
              obtain ⟨n, hn0⟩ : ∃ n, n = L.length := ⟨_, rfl⟩
              rw [← hn0] at c2 hml hdl
              have hnI : (n : Int) ≤ 1000000 := by omega
              have HC : Hid (∀ w2, Since wr w2 → Calls Try.prog 25 #[.agg #[.string s, .slice A' n c']] w2 fun e w' => ∃ Ad cd, e = .returned (.slice Ad n cd) ∧ RdB w' w'.heap.size Ad (blank4 ⟨s, L⟩) ∧ Since w2 w') := Lib.hid (fun w2 h2 => (hUN A' n c' w2 (hK.on h2) hn0 (by omega)).mono (by
                rintro e w' ⟨v, rfl, hO, hS⟩
                obtain ⟨Ad, cd, rfl, _, hr⟩ := hO.rd (by omega) byL_len
                rw [hdl]
                exact ⟨Ad, cd, rfl, hr, hS⟩))
              have HPD := Lib.hid (fun Ad cd w2 hr => rf_pad Ad n cd (blank4 ⟨s, L⟩) w2 hr hdl.symm (by omega))
              have HPL := Lib.hid (show (padL (blank4 ⟨s, L⟩)).length = pad4 n by rw [padL_len, hdl])
              have l5 : (BL ++ body4 (TT.take j)).length + (padL (blank4 ⟨s, L⟩)).length ≤ 140737488355328 := by rw [List.length_append]; omega
              generalize blank4 ⟨s, L⟩ = DL at *
              generalize body4 (TT.take j) = YL at *
              generalize pad4 n = pn at *
              clear hT h hc1 hc2 hjL hn0 hmem hk hUN hdl hpe hyl hl4
              go_wp2_with (first | (go_at_call 25; (with_reducible refine (HC.out _ (by (repeat (first | with_reducible (exact Since.refl _) | with_reducible assumption | with_reducible (refine Since.drew ?_) | with_reducible (refine Since.drewN ?_ _) | with_reducible (refine Since.alloc ?_ _) | (with_reducible (refine Since.setCell ?_ ?_ _); rotate_left; focus (first | (simp; done) | (simp; omega) | omega)) | (with_reducible (refine Since.trans ?_ (by with_reducible assumption))))))).mono ?_); rintro e w2 ⟨Ad, cd, rfl, hrd, hSd⟩; have hXd : Since wr w2 := (by (repeat (first | with_reducible (exact Since.refl _) | with_reducible assumption | with_reducible (refine Since.drew ?_) | with_reducible (refine Since.drewN ?_ _) | with_reducible (refine Since.alloc ?_ _) | (with_reducible (refine Since.setCell ?_ ?_ _); rotate_left; focus (first | (simp; done) | (simp; omega) | omega)) | (with_reducible (refine Since.trans ?_ (by with_reducible assumption))))))) | (go_at_call 58; (with_reducible refine (HPD.out Ad cd _ hrd).mono ?_); rintro e wc ⟨gc, dc, rfl, hgc, hrc, hSc⟩; have hXc : Since wr wc := (by (repeat (first | with_reducible (exact Since.refl _) | with_reducible assumption | with_reducible (refine Since.drew ?_) | with_reducible (refine Since.drewN ?_ _) | with_reducible (refine Since.alloc ?_ _) | (with_reducible (refine Since.setCell ?_ ?_ _); rotate_left; focus (first | (simp; done) | (simp; omega) | omega)) | (with_reducible (refine Since.trans ?_ (by with_reducible assumption)))))); have hOc := hO.since hXc; have hSwc := hSx.trans hXc) | (at_builtin; refine wpList_append_b rfl (.tmp 93) (.tmp 96) (by rfl) hSwc _ (BL ++ YL) (by rfl) hOc _ (some ⟨gc, 0, none⟩) pn dc (padL DL) HPL.out.symm (by rfl) hrc l5 ?_; intro vd wd hOd hSd2))
              go_roundw
              case rel => first | exact ⟨j + 1, by omega, by first | rfl | go_num | simp, by rw [HT4.out, ← List.append_assoc]; exact hOd, hSd2⟩ | ((repeat apply Exists.intro); refine ⟨?_, rfl⟩; exact ⟨j + 1, by omega, by first | rfl | go_num | simp, by rw [HT4.out, ← List.append_assoc]; exact hOd, hSd2⟩)
              case measure => simp [intOf]; omega
            · obtain rfl : N = j := by omega
              have hjn' : ¬ (N : Int) < (N : Int) := by omega
              have e : TT.take N = TT := by rw [HN.out]; exact List.take_length
              rw [e, ← HRW2.out] at hO
              obtain ⟨A7, c7, rfl, hc7, hr7⟩ := hO.rd (by omega) byL_len
              have hRL := HRL.out
              have HAJ := HAJ.out
              have hsr := sumI_range (raw4 TT)
              have HSM := Lib.hid (fun Ad n cd w2 hr (hn : n = (raw4 TT).length) => rf_sum4 Ad n cd (raw4 TT) w2 hr hn HRB.out (by omega))
              have HAD := Lib.hid (fun w2 => ref_adjust (sumI (raw4 TT)) w2 hsr)
              clear h HE HF HTS HBY e hj hBl HRW2 hO
              generalize raw4 TT = R at *
              generalize adj4 (-1) (12 + 16 * N) TT = x at *
              obtain ⟨Z, hZ⟩ : ∃ Z, Z = R.length := ⟨_, rfl⟩
              have HZ := Lib.hid hZ
              rw [← hZ] at hRL ⊢
              rcases HAJ with hx | ⟨hx1, hx2⟩
              · have EF := Lib.hid (show file4 TT = R by rw [HFL.out, if_pos (by omega)])
                subst hx
                clear hZ
                go_wp2_with fail
                go_ret
                refine ⟨A7, ⟨c7, ?_⟩, by rw [EF.out]; exact hr7, hSx⟩
                rw [EF.out, ← HZ.out]
                rfl
              · obtain ⟨q, rfl⟩ : ∃ q : Nat, x = q := ⟨x.toNat, by omega⟩
                have EF := Lib.hid (show file4 TT = layL R q (putL ((2981146554 - sumI R) % 4294967296) 4) by rw [HFL.out, if_neg (by omega), Int.toNat_natCast])
                have hqZ : q + 4 ≤ R.length := by omega
                have hq0 : (0 : Int) ≤ (q : Int) := by omega
                have hadr : 0 ≤ (2981146554 - sumI R) % 4294967296 ∧ (2981146554 - sumI R) % 4294967296 < 4294967296 := by omega
                generalize sumI R = sm at *
                obtain ⟨ad, had⟩ : ∃ ad, ad = (2981146554 - sm) % 4294967296 := ⟨_, rfl⟩
                rw [← had] at HAD hadr EF
                have m1 : IntKind.i64.wrap ad = ad := by rw [IntKind.wrap_i64]; omega
                have HPQ := Lib.hid (fun w2 => rput_o 4 ad 4 w2 (by unfold In64; omega) rfl (by omega))
                have hlp := putL_len ad 4
                have HLY := Lib.hid (fun B d w2 (hS2 : Since wr w2) (hB2 : RdB w2 w2.heap.size B (putL ad 4)) => rf_lay4 A7 B Z c7 d R (putL ad 4) q w2 (hr7.on hS2) hB2 hZ hlp hqZ (by omega))
                have HLL := Lib.hid (layL_len R (putL ad 4) q (by rw [hlp]; exact hqZ))
                have HSZ := Lib.hid hSx
                clear hsr had hx1 hx2 hRL hZ hqZ hlp
                go_wp2_with (first | (go_at_call 27; (with_reducible refine (HSM.out _ _ _ _ hr7 HZ.out).mono ?_); rintro e w5 ⟨rfl, hw5⟩; have hw6 := hw5.symm; subst hw6; clear hw5) | (go_at_call 61; (with_reducible refine (HAD.out _).mono ?_); rintro e w6 ⟨rfl, hw6⟩; have hw7 := hw6.symm; subst hw7; clear hw6) | (go_at_call 60; (with_reducible refine (HPQ.out _).mono ?_); rintro e w9 ⟨g9, rfl, hg9, hO9, hS9⟩; have hr9 := own_rdw hO9) | (go_at_call 59; (with_reducible refine (HLY.out _ _ _ hS9 hr9).mono ?_); rintro e wa ⟨Aa, ca, rfl, hra, hSa⟩))
                go_ret
                refine ⟨Aa, ca, ?_, by rw [EF.out]; exact hra, hSx.trans (hS9.trans hSa)⟩
                rw [EF.out, HLL.out, ← HZ.out]
                rfl
end Go.Proofs.Ytpplnapfpoloiaa

/-
  Layer 4: what an entry is read as; its tag.
-/
namespace Go.Proofs.Ytpplnapfpoloiaa
open Go.RowKit Go.ChangeShapes Go.WideShapes Go.Deep
set_option linter.unusedVariables false
set_option linter.unusedSimpArgs false

def strOf (M : List Int) : ByteArray := ⟨(M.map (fun v => UInt8.ofNat v.toNat)).toArray⟩
def cutL (L : List Int) (p m : Nat) : List Int := (L.drop p).take m
theorem cutL_len {L : List Int} {p m : Nat} (h : p + m ≤ L.length) : (cutL L p m).length = m := by
  unfold cutL; rw [List.length_take, List.length_drop]; omega
theorem cutL_get {L : List Int} {p m j : Nat} (h : j < m) : fnL (cutL L p m) j = fnL L (p + j) := by
  unfold cutL fnL
  rw [List.getD_eq_getElem?_getD, List.getD_eq_getElem?_getD, List.getElem?_take_of_lt h, List.getElem?_drop]
theorem bytes_cut {L : List Int} (h : Bytes L) (p m : Nat) : Bytes (cutL L p m) := fun v hv => h v (List.mem_of_mem_drop (List.mem_of_mem_take hv))
/-- An entry: why it can't be read; its table. -/
def rd1 (L : List Int) (a : Nat) (last : ByteArray) : Int × Tb :=
  if TagG (strOf (cutL L a 4)) = false ∨ Op.bytesLess last.toList (strOf (cutL L a 4)).toList = false then (4, ⟨ByteArray.empty, []⟩)
  else
    let m := (numAt (fnL L) (a + 12) 4).toNat
    let p := if m = 0 then 0 else (numAt (fnL L) (a + 8) 4).toNat
    if L.length < p + m then (3, ⟨ByteArray.empty, []⟩)
    else if sumI (blank4 ⟨strOf (cutL L a 4), cutL L p m⟩) = numAt (fnL L) (a + 4) 4 then (0, ⟨strOf (cutL L a 4), blank4 ⟨strOf (cutL L a 4), cutL L p m⟩⟩)
    else (5, ⟨ByteArray.empty, []⟩)
theorem conv_str {w : World} {b o : Nat} {M : List Int} (hr : ∀ j, j < M.length → w.cell? ⟨b, o + j, none⟩ = some (.int .u8 (fnL M j))) (hb : Bytes M) (m : Nat) (hm : m = M.length) (k : Nat) :
    (convert 26 9 (.slice (some ⟨b, o, none⟩) m k)).run Try.prog w = .ok (.string (strOf M)) w := by
  subst hm
  have hl : (M.map (fun v => UInt8.ofNat v.toNat)).length = M.length := List.length_map ..
  have h0 := run_convert_bytes_back (P := Try.prog) w 26 9 5 ⟨b, o, none⟩ k (M.map (fun v => UInt8.ofNat v.toNat)) Try.underlying26 Try.underlying5 Try.underlying9 (fun j hj => by
    rw [hl] at hj
    rw [add_plain, hr j hj]
    congr 2
    rw [List.getElem_map]
    have h1 : fnL M j = M[j] := by unfold fnL; rw [List.getD_eq_getElem?_getD, List.getElem?_eq_getElem hj]; rfl
    have h2 := hb M[j] (List.getElem_mem hj)
    rw [h1, UInt8.toNat_ofNat']
    omega)
  rw [hl] at h0
  exact h0
theorem u4_l (A : Option Addr) (n c : Nat) (L : List Int) (a : Nat) (x : Int) (hx : x = (a : Int)) (w : World) (h : RdB w w.heap.size A L) (hn : n = L.length) (hb : Bytes L) (ha : a + 4 ≤ n) (hN : n ≤ 140737488355328) :
    Calls Try.prog 62 #[.slice A n c, .int .i64 x, .int .i64 4] w fun e w' => e = .returned (.tuple #[.int .i64 (numAt (fnL L) a 4), .int .i64 0]) ∧ w' = w := by
  subst hn; subst hx
  have h0 := be_u A L.length c (fnL L) (a : Int) 4 w (rdb_rd h) (bytes_fn hb) (by unfold In64; omega) (by unfold In64; omega) hN
  have e : uAns (fnL L) L.length (a : Int) 4 = (numAt (fnL L) a 4, 0) := by
    unfold uAns
    rw [if_neg (by omega), if_pos (by unfold Fits; omega), Int.toNat_natCast]
    rfl
  rw [e] at h0
  exact h0
theorem num4_range (L : List Int) (hb : Bytes L) (a : Nat) (ha : a + 4 ≤ L.length) : 0 ≤ numAt (fnL L) a 4 ∧ numAt (fnL L) a 4 < 4294967296 := by
  have h1 := numAt_range (f := fnL L) (p := a) (k := 4) (fun j hj => bytes_fn hb j (by omega))
  simp only [Int.reducePow] at h1
  exact h1
theorem cut_yes4 (A : Option Addr) (n c : Nat) (L : List Int) (p m : Nat) (x y : Int) (hx : x = (p : Int)) (hy : y = (m : Int)) (w : World) (h : RdB w w.heap.size A L) (hn : n = L.length) (hN : n ≤ 140737488355328) (hnc : n ≤ c) (hp : p + m ≤ n) :
    Calls Try.prog 74 #[.slice A n c, .int .i64 x, .int .i64 y] w fun e w' => ∃ A' k, e = .returned (.tuple #[.slice A' m k, .int .i64 0]) ∧ RdB w' w'.heap.size A' (cutL L p m) ∧ Since w w' := by
  subst hn; subst hx; subst hy
  have h0 := be_cut A L.length c (fnL L) (p : Int) (m : Int) w (rdb_rd h) (by unfold In64; omega) (by unfold In64; omega) hN hnc
  refine h0.mono ?_
  rintro e w' ⟨A', l, k, rfl, hl, _, hN, hS⟩
  obtain ⟨e1, e2⟩ := cut_yes (n := L.length) (i := (p : Int)) (k := (m : Int)) (by unfold Fits; omega)
  rw [e2, Int.toNat_natCast] at hl
  subst hl
  refine ⟨A', k, by rw [e1], rdb_of hN.rd (cutL_len hp).symm (fun j hj => ?_), hS⟩
  rw [cutL_get hj, Int.toNat_natCast]
theorem cut_no4 (A : Option Addr) (n c : Nat) (L : List Int) (p m : Nat) (x y : Int) (hx : x = (p : Int)) (hy : y = (m : Int)) (w : World) (h : RdB w w.heap.size A L) (hn : n = L.length) (hN : n ≤ 140737488355328) (hnc : n ≤ c) (hp : n < p + m) (hp1 : p < 4294967296) (hm1 : m < 4294967296) :
    Calls Try.prog 74 #[.slice A n c, .int .i64 x, .int .i64 y] w fun e w' => ∃ A' k, e = .returned (.tuple #[.slice A' 0 k, .int .i64 3]) ∧ Since w w' := by
  subst hn; subst hx; subst hy
  have h0 := be_cut A L.length c (fnL L) (p : Int) (m : Int) w (rdb_rd h) (by unfold In64; omega) (by unfold In64; omega) hN hnc
  refine h0.mono ?_
  rintro e w' ⟨A', l, k, rfl, hl, _, hN, hS⟩
  obtain ⟨e1, e2⟩ := cut_no (n := L.length) (i := (p : Int)) (k := (m : Int)) (by unfold Fits; omega)
  rw [e2] at hl
  subst hl
  exact ⟨A', k, by rw [e1], hS⟩
end Go.Proofs.Ytpplnapfpoloiaa

/-
  Layer 4: 'read', walked.
-/
namespace Go.Proofs.Ytpplnapfpoloiaa
open Go.RowKit Go.ChangeShapes Go.WideShapes Go.Deep
set_option linter.unusedVariables false
set_option linter.unusedSimpArgs false

/-- What 'read' leaves. -/
def RdP4 (R : Int × Tb) (w : World) (e : Ending) (w' : World) : Prop := ∃ v, e = .returned (.tuple #[.agg #[.string R.2.tag, v], .int .i64 R.1]) ∧ OwnB w' w.heap.size v R.2.data ∧ Since w w'
theorem rdp4_no {R : Int × Tb} {w w' : World} {x : Int} (h : R = (x, ⟨ByteArray.empty, []⟩)) (hS : Since w w') : RdP4 R w (.returned (.tuple #[.agg #[.string { data := #[] }, .slice none 0 0], .int .i64 x])) w' := by
  subst h
  exact ⟨_, rfl, OwnG.nil _ _ _ _ _, hS⟩
theorem rdp4_ok {R : Int × Tb} {w w' : World} {s : ByteArray} {v : Value} {DL : List Int} (h : R = (0, ⟨s, DL⟩)) (hO : OwnB w' w.heap.size v DL) (hS : Since w w') : RdP4 R w (.returned (.tuple #[.agg #[.string s, v], .int .i64 0])) w' := by
  subst h
  exact ⟨_, rfl, hO, hS⟩
theorem own_setlow {w : World} {base b : Nat} {v : Value} {L : List Int} (h : OwnB w base v L) (hb : b < base) (o : Nat) (x : Value) : OwnB (w.setCell ⟨b, o, none⟩ x) base v L :=
  OwnG.keep h fun y hy _ => by simp [World.setCell, Array.getElem?_modify, show ¬ b = y by omega]
set_option maxRecDepth 1000000 in
set_option maxHeartbeats 32000000 in
theorem sf_read1 (A : Option Addr) (n c : Nat) (L : List Int) (a : Nat) (last : ByteArray) (w : World) (h : RdB w w.heap.size A L) (hn : n = L.length) (hb : Bytes L) (ha : a + 16 ≤ n) (hN : n ≤ 1048576) (hnc : n ≤ c) :
    Calls Try.prog 63 #[.slice A n c, .int .i64 (a : Int), .string last] w (RdP4 (rd1 L a last) w) := by
  obtain ⟨b, o, rfl, hbz, hc⟩ := id (h (by omega))
  have HM := Lib.hid (cutL_len (L := L) (p := a) (m := 4) (by omega))
  have hcv : ∀ k, (convert 26 9 (.slice (some ⟨b, o + a, none⟩) 4 k)).run Try.prog (w.alloc (.cells #[.string { data := #[] }, .slice none 0 0] 36)) = .ok (.string (strOf (cutL L a 4))) (w.alloc (.cells #[.string { data := #[] }, .slice none 0 0] 36)) := fun k => conv_str (fun j hj => by
    rw [HM.out] at hj
    have h1 := hc (a + j) _ (fnL_get (by omega)) 0 (by omega)
    rw [cutL_get hj, ((Since.refl w).alloc (.cells #[.string { data := #[] }, .slice none 0 0] 36)).1 b _ hbz]
    rw [show o + (a + j) * 1 + 0 = o + a + j by omega] at h1
    exact h1) (bytes_cut hb a 4) 4 HM.out.symm k
  have hst : (strOf (cutL L a 4)).size ≤ maxLen := by
    have : (strOf (cutL L a 4)).size = 4 := by
      show (List.toArray _).size = 4
      rw [List.size_toArray, List.length_map, HM.out]
    rw [this]; simp only [maxLen]; omega
  have HPR := Lib.hid (fun w2 => sf_printable (strOf (cutL L a 4)) w2 hst)
  have HU4 := Lib.hid (fun (w2 : World) (h2 : Since w w2) => u4_l (some ⟨b, o, none⟩) n c L (a + 4) ((a : Int) + 4) (by omega) w2 (h.on h2) hn hb (by omega) (by omega))
  have HU8 := Lib.hid (fun (w2 : World) (h2 : Since w w2) => u4_l (some ⟨b, o, none⟩) n c L (a + 8) ((a : Int) + 8) (by omega) w2 (h.on h2) hn hb (by omega) (by omega))
  have HU12 := Lib.hid (fun (w2 : World) (h2 : Since w w2) => u4_l (some ⟨b, o, none⟩) n c L (a + 12) ((a : Int) + 12) (by omega) w2 (h.on h2) hn hb (by omega) (by omega))
  have r4 := num4_range L hb (a + 4) (by omega)
  have r8 := num4_range L hb (a + 8) (by omega)
  have r12 := num4_range L hb (a + 12) (by omega)
  obtain ⟨RR, ER⟩ : ∃ RR, RR = rd1 L a last := ⟨_, rfl⟩
  rw [← ER]
  unfold rd1 at ER
  have haI : (a : Int) + 4 ≤ (c : Int) := by omega
  have hac : ¬ a = c := by omega
  have hacI : (a : Int) ≤ (c : Int) := by omega
  have ha0 : (a : Int) ≤ (a : Int) + 4 := by omega
  have m4 : IntKind.i64.wrap ((a : Int) + 4) = (a : Int) + 4 := by rw [IntKind.wrap_i64]; omega
  have m8 : IntKind.i64.wrap ((a : Int) + 8) = (a : Int) + 8 := by rw [IntKind.wrap_i64]; omega
  have m12 : IntKind.i64.wrap ((a : Int) + 12) = (a : Int) + 12 := by rw [IntKind.wrap_i64]; omega
  generalize strOf (cutL L a 4) = s at *
  have HN := Lib.hid hn
  have HB := Lib.hid hb
  clear hn hb
  obtain ⟨tg, htg⟩ : ∃ tg, TagG s = tg := ⟨_, rfl⟩
  obtain ⟨ls, hls⟩ : ∃ ls, Op.bytesLess last.toList s.toList = ls := ⟨_, rfl⟩
  rw [htg] at HPR
  rw [htg, hls] at ER
  have HLS := Lib.hid hls
  clear htg
  cases tg
  · rw [if_pos (.inl rfl)] at ER
    have E := Lib.hid ER
    clear ER h hc HU4 HU8 HU12 hls r4 r8 r12
    go_enter Try.func63, Try.ntmps63
    go_wp2_with (go_at_call 56; (with_reducible refine (HPR.out _).mono ?_); rintro e w2 ⟨rfl, hw2⟩; have hw3 := hw2.symm; subst hw3; clear hw2)
    refine bodyPost_ret (by simp only [results, Try.results63]; go_simp) rfl (rdp4_no E.out (by (repeat (first | with_reducible (exact Since.refl _) | with_reducible assumption | with_reducible (refine Since.drew ?_) | with_reducible (refine Since.drewN ?_ _) | with_reducible (refine Since.alloc ?_ _) | (with_reducible (refine Since.setCell ?_ ?_ _); rotate_left; focus (first | (simp; done) | (simp; omega) | omega)) | (with_reducible (refine Since.trans ?_ (by with_reducible assumption)))))))
  have htri := less_tri last.toList s.toList
  rw [HLS.out] at htri
  clear hls
  cases ls
  · rw [if_pos (.inr rfl)] at ER
    have E := Lib.hid ER
    clear ER h hc HU4 HU8 HU12 r4 r8 r12
    obtain ⟨a1, ha1⟩ : ∃ a1, Op.bytesLess s.toList last.toList = a1 := ⟨_, rfl⟩
    rw [ha1] at htri
    cases a1
    · have he1 : s.toList = last.toList := by simpa using htri
      clear htri
      go_enter Try.func63, Try.ntmps63
      go_wp2_with (go_at_call 56; (with_reducible refine (HPR.out _).mono ?_); rintro e w2 ⟨rfl, hw2⟩; have hw3 := hw2.symm; subst hw3; clear hw2)
      refine bodyPost_ret (by simp only [results, Try.results63]; go_simp) rfl (rdp4_no E.out (by (repeat (first | with_reducible (exact Since.refl _) | with_reducible assumption | with_reducible (refine Since.drew ?_) | with_reducible (refine Since.drewN ?_ _) | with_reducible (refine Since.alloc ?_ _) | (with_reducible (refine Since.setCell ?_ ?_ _); rotate_left; focus (first | (simp; done) | (simp; omega) | omega)) | (with_reducible (refine Since.trans ?_ (by with_reducible assumption)))))))
    · clear htri
      go_enter Try.func63, Try.ntmps63
      go_wp2_with (go_at_call 56; (with_reducible refine (HPR.out _).mono ?_); rintro e w2 ⟨rfl, hw2⟩; have hw3 := hw2.symm; subst hw3; clear hw2)
      refine bodyPost_ret (by simp only [results, Try.results63]; go_simp) rfl (rdp4_no E.out (by (repeat (first | with_reducible (exact Since.refl _) | with_reducible assumption | with_reducible (refine Since.drew ?_) | with_reducible (refine Since.drewN ?_ _) | with_reducible (refine Since.alloc ?_ _) | (with_reducible (refine Since.setCell ?_ ?_ _); rotate_left; focus (first | (simp; done) | (simp; omega) | omega)) | (with_reducible (refine Since.trans ?_ (by with_reducible assumption)))))))
  have ha1 : Op.bytesLess s.toList last.toList = false := by
    cases ha : Op.bytesLess s.toList last.toList
    · rfl
    · rw [ha] at htri; simp at htri
  have he1 : (s.toList == last.toList) = false := by
    rw [ha1] at htri
    simpa using htri.symm
  clear htri
  rw [if_neg (by simp)] at ER
  obtain ⟨m, hm⟩ : ∃ m : Nat, numAt (fnL L) (a + 12) 4 = m := ⟨(numAt (fnL L) (a + 12) 4).toNat, by omega⟩
  obtain ⟨q, hq⟩ : ∃ q : Nat, numAt (fnL L) (a + 8) 4 = q := ⟨(numAt (fnL L) (a + 8) 4).toNat, by omega⟩
  obtain ⟨sg, hsg⟩ : ∃ sg, numAt (fnL L) (a + 4) 4 = sg := ⟨_, rfl⟩
  rw [hm, hq, hsg] at ER
  rw [hm] at HU12 r12
  rw [hq] at HU8 r8
  rw [hsg] at HU4 r4
  simp only [Int.toNat_natCast] at ER
  clear hm hq hsg
  have hsgw : IntKind.u32.wrap sg = sg := by rw [IntKind.wrap_u32]; omega
  have hwm0 : Since w (w.alloc (.cells #[.string { data := #[] }, .slice none 0 0] 36)) := (Since.refl w).alloc _
  have hT0 := Lib.hid (two_new w w.heap.size rfl (.string { data := #[] }) (.slice none 0 0) 36)
  have hnc2 := hnc
  clear hnc
  by_cases hfit : ¬ m = 0 ∧ L.length < q + m
  · rw [if_neg hfit.1, if_pos hfit.2] at ER
    have E := Lib.hid ER
    have d0 : ¬ (m : Int) = 0 := by have := hfit.1; omega
    have HCT := Lib.hid (fun (w2 : World) (h2 : Since w w2) => cut_no4 (some ⟨b, o, none⟩) n c L q m (q : Int) (m : Int) rfl rfl w2 (h.on h2) HN.out (by omega) hnc2 (by have := HN.out; omega) (by omega) (by omega))
    clear ER h hc r4 r8 r12 hfit hsgw
    go_enter Try.func63, Try.ntmps63
    go_wp2_with (first | (go_at_call 56; (with_reducible refine (HPR.out _).mono ?_); rintro e w2 ⟨rfl, hw2⟩; have hw3 := hw2.symm; subst hw3; clear hw2) | (go_at_call 62; (with_reducible refine (HU4.out _ hwm0).mono ?_); rintro e w2 ⟨rfl, hw2⟩; have hw3 := hw2.symm; subst hw3; clear hw2) | (go_at_call 62; (with_reducible refine (HU8.out _ hwm0).mono ?_); rintro e w2 ⟨rfl, hw2⟩; have hw3 := hw2.symm; subst hw3; clear hw2) | (go_at_call 62; (with_reducible refine (HU12.out _ hwm0).mono ?_); rintro e w2 ⟨rfl, hw2⟩; have hw3 := hw2.symm; subst hw3; clear hw2) | (go_at_call 74; (with_reducible refine (HCT.out _ hwm0).mono ?_); rintro e w4 ⟨A4, k4, rfl, hS4⟩; obtain ⟨t1, t2, t3, t4, t5⟩ := hT0.out.since hS4))
    refine bodyPost_ret (by simp only [results, Try.results63]; go_simp) rfl (rdp4_no E.out (by (repeat (first | with_reducible (exact Since.refl _) | with_reducible assumption | with_reducible (refine Since.drew ?_) | with_reducible (refine Since.drewN ?_ _) | with_reducible (refine Since.alloc ?_ _) | (with_reducible (refine Since.setCell ?_ ?_ _); rotate_left; focus (first | (simp; done) | (simp; omega) | omega)) | (with_reducible (refine Since.trans ?_ (by with_reducible assumption)))))))
  have HM0 := Lib.hid (show m = 0 ∨ ¬ L.length < q + m by omega)
  clear hfit
  by_cases hm0 : m = 0

  · first | (subst hm0; rw [show ((0 : Nat) : Int) = 0 from rfl] at HU12 r12) | skip
    have hle : 0 + 0 ≤ L.length := by rcases HM0.out with h1 | h1 <;> omega
    have ER2 : RR = if sumI (blank4 ⟨s, cutL L 0 0⟩) = sg then (0, ⟨s, blank4 ⟨s, cutL L 0 0⟩⟩) else (5, ⟨ByteArray.empty, []⟩) := by
      first | (rw [if_pos rfl, if_neg (by omega)] at ER; exact ER) | (rw [if_neg hm0, if_neg (by omega)] at ER; exact ER)
    first | (have d1 : ¬ (0 : Int) = 0 := by omega) | skip
    clear ER
    have ER := ER2
    clear ER2
    have HCT := Lib.hid (fun (w2 : World) (h2 : Since w w2) => cut_yes4 (some ⟨b, o, none⟩) n c L 0 0 0 0 (by omega) (by omega) w2 (h.on h2) HN.out (by omega) hnc2 (by have := HN.out; omega))
    have hcl := cutL_len hle
    have hcb := bytes_cut HB.out 0 0
    have hUN := sf_unadj ⟨s, cutL L 0 0⟩
    have hdl := blank4_len ⟨s, cutL L 0 0⟩
    have hdb := bytes_blank (T := ⟨s, cutL L 0 0⟩) hcb
    simp only at hUN hdl
    rw [hcl] at hdl
    have HC : Hid (∀ w2 A' c', RdB w2 w2.heap.size A' (cutL L 0 0) → Calls Try.prog 47 #[.agg #[.string s, .slice A' 0 c']] w2 fun e w' => ∃ Ad cd, e = .returned (.slice Ad 0 cd) ∧ OwnB w' w2.heap.size (.slice Ad 0 cd) (blank4 ⟨s, cutL L 0 0⟩) ∧ Since w2 w') := Lib.hid (fun w2 A' c' hr => (hUN A' 0 c' w2 hr hcl.symm (by omega)).mono (by
      rintro e w' ⟨v, rfl, hO, hS⟩
      obtain ⟨Ad, cd, rfl, _, _⟩ := hO.rd (by omega) byL_len
      rw [hdl] at hO ⊢
      exact ⟨Ad, cd, rfl, hO, hS⟩))
    have hsr := sumI_range (blank4 ⟨s, cutL L 0 0⟩)
    have HSM := Lib.hid (fun Ad cd w2 hr => sf_sum Ad 0 cd (blank4 ⟨s, cutL L 0 0⟩) w2 hr hdl.symm hdb (by omega))
    generalize blank4 ⟨s, cutL L 0 0⟩ = DL at *
    obtain ⟨sm, hsm⟩ : ∃ sm, sumI DL = sm := ⟨_, rfl⟩
    rw [hsm] at HSM ER hsr
    clear hsm hUN hdl hdb hcb hcl h hc hle HM0 r4 r8 r12
    first | clear hm0 | skip
    by_cases hsg : sm = sg
    · rw [if_pos hsg] at ER
      have E := Lib.hid ER
      clear ER
      go_enter Try.func63, Try.ntmps63
      go_wp2_with (first | (go_at_call 56; (with_reducible refine (HPR.out _).mono ?_); rintro e w2 ⟨rfl, hw2⟩; have hw3 := hw2.symm; subst hw3; clear hw2) | (go_at_call 62; (with_reducible refine (HU4.out _ hwm0).mono ?_); rintro e w2 ⟨rfl, hw2⟩; have hw3 := hw2.symm; subst hw3; clear hw2) | (go_at_call 62; (with_reducible refine (HU8.out _ hwm0).mono ?_); rintro e w2 ⟨rfl, hw2⟩; have hw3 := hw2.symm; subst hw3; clear hw2) | (go_at_call 62; (with_reducible refine (HU12.out _ hwm0).mono ?_); rintro e w2 ⟨rfl, hw2⟩; have hw3 := hw2.symm; subst hw3; clear hw2) | (go_at_call 74; (with_reducible refine (HCT.out _ hwm0).mono ?_); rintro e w4 ⟨A4, k4, rfl, hr4, hS4⟩; have hT4 := hT0.out.since hS4; have hW4 := hwm0.trans hS4) | (go_at_call 47; (with_reducible refine (HC.out _ _ _ (hr4.on ((Since.refl w4).alloc _))).mono ?_); rintro e w5 ⟨Ad, cd, rfl, hOd, hSd⟩; obtain ⟨u1, u2, u3, u4, u5⟩ := (two_new w4 w4.heap.size rfl (.string s) (.slice A4 0 k4) 36).since hSd; obtain ⟨t1, t2, t3, t4, t5⟩ := (hT4.since ((Since.refl w4).alloc _)).since hSd; have hne : ¬ w4.heap.size = w.heap.size := (by have := hT4.2.2.2.2; omega); have hne2 : ¬ w.heap.size = w4.heap.size := (fun e => hne e.symm); have hO6 := own_setlow hOd (show w4.heap.size < (w4.alloc (.cells #[.string s, .slice A4 0 k4] 36)).heap.size by simp) 1 (.slice Ad 0 cd); have hr6 := own_rdw hO6; have hS6 : Since w (w5.setCell ⟨w4.heap.size, 1, none⟩ (.slice Ad 0 cd)) := (hW4.trans (((Since.refl w4).alloc _).trans hSd)).setCell hW4.below.size _) | (go_at_call 49; (with_reducible refine (HSM.out Ad cd _ hr6).mono ?_); rintro e w6 ⟨rfl, hw6⟩; subst hw6))
      have hlt : w.heap.size < (w4.alloc (.cells #[.string s, .slice A4 0 k4] 36)).heap.size := by have := hT4.2.2.2.2; simp; omega
      refine bodyPost_ret (by simp only [results, Try.results63]; go_simp) rfl (rdp4_ok E.out ((own_setlow (own_setlow hO6 hlt 0 (.string s)) hlt 1 (.slice Ad 0 cd)).low (Nat.le_of_lt hlt)) ((hS6.setCell (Nat.le_refl _) _).setCell (Nat.le_refl _) _))
    · rw [if_neg hsg] at ER
      have E := Lib.hid ER
      clear ER
      go_enter Try.func63, Try.ntmps63
      go_wp2_with (first | (go_at_call 56; (with_reducible refine (HPR.out _).mono ?_); rintro e w2 ⟨rfl, hw2⟩; have hw3 := hw2.symm; subst hw3; clear hw2) | (go_at_call 62; (with_reducible refine (HU4.out _ hwm0).mono ?_); rintro e w2 ⟨rfl, hw2⟩; have hw3 := hw2.symm; subst hw3; clear hw2) | (go_at_call 62; (with_reducible refine (HU8.out _ hwm0).mono ?_); rintro e w2 ⟨rfl, hw2⟩; have hw3 := hw2.symm; subst hw3; clear hw2) | (go_at_call 62; (with_reducible refine (HU12.out _ hwm0).mono ?_); rintro e w2 ⟨rfl, hw2⟩; have hw3 := hw2.symm; subst hw3; clear hw2) | (go_at_call 74; (with_reducible refine (HCT.out _ hwm0).mono ?_); rintro e w4 ⟨A4, k4, rfl, hr4, hS4⟩; have hT4 := hT0.out.since hS4; have hW4 := hwm0.trans hS4) | (go_at_call 47; (with_reducible refine (HC.out _ _ _ (hr4.on ((Since.refl w4).alloc _))).mono ?_); rintro e w5 ⟨Ad, cd, rfl, hOd, hSd⟩; obtain ⟨u1, u2, u3, u4, u5⟩ := (two_new w4 w4.heap.size rfl (.string s) (.slice A4 0 k4) 36).since hSd; obtain ⟨t1, t2, t3, t4, t5⟩ := (hT4.since ((Since.refl w4).alloc _)).since hSd; have hne : ¬ w4.heap.size = w.heap.size := (by have := hT4.2.2.2.2; omega); have hne2 : ¬ w.heap.size = w4.heap.size := (fun e => hne e.symm); have hO6 := own_setlow hOd (show w4.heap.size < (w4.alloc (.cells #[.string s, .slice A4 0 k4] 36)).heap.size by simp) 1 (.slice Ad 0 cd); have hr6 := own_rdw hO6; have hS6 : Since w (w5.setCell ⟨w4.heap.size, 1, none⟩ (.slice Ad 0 cd)) := (hW4.trans (((Since.refl w4).alloc _).trans hSd)).setCell hW4.below.size _) | (go_at_call 49; (with_reducible refine (HSM.out Ad cd _ hr6).mono ?_); rintro e w6 ⟨rfl, hw6⟩; subst hw6))
      refine bodyPost_ret (by simp only [results, Try.results63]; go_simp) rfl (rdp4_no E.out (by first | exact (hS6.setCell (Nat.le_refl _) _).setCell (Nat.le_refl _) _ | exact hS6))

  · first | (subst hm0; rw [show ((0 : Nat) : Int) = 0 from rfl] at HU12 r12) | skip
    have hle : q + m ≤ L.length := by rcases HM0.out with h1 | h1 <;> omega
    have ER2 : RR = if sumI (blank4 ⟨s, cutL L q m⟩) = sg then (0, ⟨s, blank4 ⟨s, cutL L q m⟩⟩) else (5, ⟨ByteArray.empty, []⟩) := by
      first | (rw [if_pos rfl, if_neg (by omega)] at ER; exact ER) | (rw [if_neg hm0, if_neg (by omega)] at ER; exact ER)
    first | (have d1 : ¬ (m : Int) = 0 := by omega) | skip
    clear ER
    have ER := ER2
    clear ER2
    have HCT := Lib.hid (fun (w2 : World) (h2 : Since w w2) => cut_yes4 (some ⟨b, o, none⟩) n c L q m ↑q ↑m (by omega) (by omega) w2 (h.on h2) HN.out (by omega) hnc2 (by have := HN.out; omega))
    have hcl := cutL_len hle
    have hcb := bytes_cut HB.out q m
    have hUN := sf_unadj ⟨s, cutL L q m⟩
    have hdl := blank4_len ⟨s, cutL L q m⟩
    have hdb := bytes_blank (T := ⟨s, cutL L q m⟩) hcb
    simp only at hUN hdl
    rw [hcl] at hdl
    have HC : Hid (∀ w2 A' c', RdB w2 w2.heap.size A' (cutL L q m) → Calls Try.prog 47 #[.agg #[.string s, .slice A' m c']] w2 fun e w' => ∃ Ad cd, e = .returned (.slice Ad m cd) ∧ OwnB w' w2.heap.size (.slice Ad m cd) (blank4 ⟨s, cutL L q m⟩) ∧ Since w2 w') := Lib.hid (fun w2 A' c' hr => (hUN A' m c' w2 hr hcl.symm (by omega)).mono (by
      rintro e w' ⟨v, rfl, hO, hS⟩
      obtain ⟨Ad, cd, rfl, _, _⟩ := hO.rd (by omega) byL_len
      rw [hdl] at hO ⊢
      exact ⟨Ad, cd, rfl, hO, hS⟩))
    have hsr := sumI_range (blank4 ⟨s, cutL L q m⟩)
    have HSM := Lib.hid (fun Ad cd w2 hr => sf_sum Ad m cd (blank4 ⟨s, cutL L q m⟩) w2 hr hdl.symm hdb (by omega))
    generalize blank4 ⟨s, cutL L q m⟩ = DL at *
    obtain ⟨sm, hsm⟩ : ∃ sm, sumI DL = sm := ⟨_, rfl⟩
    rw [hsm] at HSM ER hsr
    clear hsm hUN hdl hdb hcb hcl h hc hle HM0 r4 r8 r12
    first | clear hm0 | skip
    by_cases hsg : sm = sg
    · rw [if_pos hsg] at ER
      have E := Lib.hid ER
      clear ER
      go_enter Try.func63, Try.ntmps63
      go_wp2_with (first | (go_at_call 56; (with_reducible refine (HPR.out _).mono ?_); rintro e w2 ⟨rfl, hw2⟩; have hw3 := hw2.symm; subst hw3; clear hw2) | (go_at_call 62; (with_reducible refine (HU4.out _ hwm0).mono ?_); rintro e w2 ⟨rfl, hw2⟩; have hw3 := hw2.symm; subst hw3; clear hw2) | (go_at_call 62; (with_reducible refine (HU8.out _ hwm0).mono ?_); rintro e w2 ⟨rfl, hw2⟩; have hw3 := hw2.symm; subst hw3; clear hw2) | (go_at_call 62; (with_reducible refine (HU12.out _ hwm0).mono ?_); rintro e w2 ⟨rfl, hw2⟩; have hw3 := hw2.symm; subst hw3; clear hw2) | (go_at_call 74; (with_reducible refine (HCT.out _ hwm0).mono ?_); rintro e w4 ⟨A4, k4, rfl, hr4, hS4⟩; have hT4 := hT0.out.since hS4; have hW4 := hwm0.trans hS4) | (go_at_call 47; (with_reducible refine (HC.out _ _ _ (hr4.on ((Since.refl w4).alloc _))).mono ?_); rintro e w5 ⟨Ad, cd, rfl, hOd, hSd⟩; obtain ⟨u1, u2, u3, u4, u5⟩ := (two_new w4 w4.heap.size rfl (.string s) (.slice A4 m k4) 36).since hSd; obtain ⟨t1, t2, t3, t4, t5⟩ := (hT4.since ((Since.refl w4).alloc _)).since hSd; have hne : ¬ w4.heap.size = w.heap.size := (by have := hT4.2.2.2.2; omega); have hne2 : ¬ w.heap.size = w4.heap.size := (fun e => hne e.symm); have hO6 := own_setlow hOd (show w4.heap.size < (w4.alloc (.cells #[.string s, .slice A4 m k4] 36)).heap.size by simp) 1 (.slice Ad m cd); have hr6 := own_rdw hO6; have hS6 : Since w (w5.setCell ⟨w4.heap.size, 1, none⟩ (.slice Ad m cd)) := (hW4.trans (((Since.refl w4).alloc _).trans hSd)).setCell hW4.below.size _) | (go_at_call 49; (with_reducible refine (HSM.out Ad cd _ hr6).mono ?_); rintro e w6 ⟨rfl, hw6⟩; subst hw6))
      have hlt : w.heap.size < (w4.alloc (.cells #[.string s, .slice A4 m k4] 36)).heap.size := by have := hT4.2.2.2.2; simp; omega
      refine bodyPost_ret (by simp only [results, Try.results63]; go_simp) rfl (rdp4_ok E.out ((own_setlow (own_setlow hO6 hlt 0 (.string s)) hlt 1 (.slice Ad m cd)).low (Nat.le_of_lt hlt)) ((hS6.setCell (Nat.le_refl _) _).setCell (Nat.le_refl _) _))
    · rw [if_neg hsg] at ER
      have E := Lib.hid ER
      clear ER
      go_enter Try.func63, Try.ntmps63
      go_wp2_with (first | (go_at_call 56; (with_reducible refine (HPR.out _).mono ?_); rintro e w2 ⟨rfl, hw2⟩; have hw3 := hw2.symm; subst hw3; clear hw2) | (go_at_call 62; (with_reducible refine (HU4.out _ hwm0).mono ?_); rintro e w2 ⟨rfl, hw2⟩; have hw3 := hw2.symm; subst hw3; clear hw2) | (go_at_call 62; (with_reducible refine (HU8.out _ hwm0).mono ?_); rintro e w2 ⟨rfl, hw2⟩; have hw3 := hw2.symm; subst hw3; clear hw2) | (go_at_call 62; (with_reducible refine (HU12.out _ hwm0).mono ?_); rintro e w2 ⟨rfl, hw2⟩; have hw3 := hw2.symm; subst hw3; clear hw2) | (go_at_call 74; (with_reducible refine (HCT.out _ hwm0).mono ?_); rintro e w4 ⟨A4, k4, rfl, hr4, hS4⟩; have hT4 := hT0.out.since hS4; have hW4 := hwm0.trans hS4) | (go_at_call 47; (with_reducible refine (HC.out _ _ _ (hr4.on ((Since.refl w4).alloc _))).mono ?_); rintro e w5 ⟨Ad, cd, rfl, hOd, hSd⟩; obtain ⟨u1, u2, u3, u4, u5⟩ := (two_new w4 w4.heap.size rfl (.string s) (.slice A4 m k4) 36).since hSd; obtain ⟨t1, t2, t3, t4, t5⟩ := (hT4.since ((Since.refl w4).alloc _)).since hSd; have hne : ¬ w4.heap.size = w.heap.size := (by have := hT4.2.2.2.2; omega); have hne2 : ¬ w.heap.size = w4.heap.size := (fun e => hne e.symm); have hO6 := own_setlow hOd (show w4.heap.size < (w4.alloc (.cells #[.string s, .slice A4 m k4] 36)).heap.size by simp) 1 (.slice Ad m cd); have hr6 := own_rdw hO6; have hS6 : Since w (w5.setCell ⟨w4.heap.size, 1, none⟩ (.slice Ad m cd)) := (hW4.trans (((Since.refl w4).alloc _).trans hSd)).setCell hW4.below.size _) | (go_at_call 49; (with_reducible refine (HSM.out Ad cd _ hr6).mono ?_); rintro e w6 ⟨rfl, hw6⟩; subst hw6))
      refine bodyPost_ret (by simp only [results, Try.results63]; go_simp) rfl (rdp4_no E.out (by first | exact (hS6.setCell (Nat.le_refl _) _).setCell (Nat.le_refl _) _ | exact hS6))

end Go.Proofs.Ytpplnapfpoloiaa

/-
  Layer 4: what a font is read as; a row of tables that is written one by one.
-/
namespace Go.Proofs.Ytpplnapfpoloiaa
open Go.RowKit Go.ChangeShapes Go.WideShapes Go.Deep
set_option linter.unusedVariables false
set_option linter.unusedSimpArgs false

/-- The tables of the entries from the i-th on: why they can't be read; they. -/
def rd4Go (L : List Int) : Nat → Nat → ByteArray → Int × List Tb
  | 0, _, _ => (0, [])
  | k + 1, i, last => if (rd1 L (12 + 16 * i) last).1 = 0 then
      (if (rd4Go L k (i + 1) (rd1 L (12 + 16 * i) last).2.tag).1 = 0 then (0, (rd1 L (12 + 16 * i) last).2 :: (rd4Go L k (i + 1) (rd1 L (12 + 16 * i) last).2.tag).2) else ((rd4Go L k (i + 1) (rd1 L (12 + 16 * i) last).2.tag).1, []))
    else ((rd1 L (12 + 16 * i) last).1, [])
def contR (q : Int × List Tb) (D : List Tb) : Int × List Tb := if q.1 = 0 then (0, D ++ q.2) else (q.1, [])
theorem rd4_next {L : List Int} {k i : Nat} {last : ByteArray} {D : List Tb} (h : (rd1 L (12 + 16 * i) last).1 = 0) : contR (rd4Go L (k + 1) i last) D = contR (rd4Go L k (i + 1) (rd1 L (12 + 16 * i) last).2.tag) (D ++ [(rd1 L (12 + 16 * i) last).2]) := by
  rw [rd4Go, if_pos h]
  unfold contR
  by_cases h2 : (rd4Go L k (i + 1) (rd1 L (12 + 16 * i) last).2.tag).1 = 0
  · rw [if_pos h2, if_pos h2, if_pos rfl, List.append_assoc]; rfl
  · rw [if_neg h2, if_neg h2, if_neg h2]
theorem rd4_stop {L : List Int} {k i : Nat} {last : ByteArray} {D : List Tb} (h : (rd1 L (12 + 16 * i) last).1 ≠ 0) : contR (rd4Go L (k + 1) i last) D = ((rd1 L (12 + 16 * i) last).1, []) := by
  rw [rd4Go, if_neg h]
  unfold contR
  rw [if_neg h]
/-- A font: why it can't be read; its tables. -/
def rd4 (L : List Int) : Int × List Tb :=
  if 1048576 < L.length then (7, [])
  else if L.length < 12 then (3, [])
  else if numAt (fnL L) 0 4 ≠ 65536 ∨ numAt (fnL L) 4 2 < 1 ∨ 64 < numAt (fnL L) 4 2 then (4, [])
  else if L.length < 12 + 16 * (numAt (fnL L) 4 2).toNat then (3, [])
  else rd4Go L (numAt (fnL L) 4 2).toNat 0 ByteArray.empty
theorem infoTb2 : ∃ i z, Try.prog.info? 36 = some i ∧ i.zero = some z ∧ i.size = 2 ∧ i.bytes = 40 ∧ z.cells.toList = thL ⟨ByteArray.empty, none, 0, 0⟩ := by
  obtain ⟨i0, hi, hz0, hz1, hz2⟩ := info_parts infoTb0
  exact ⟨i0, _, hi, hz0, hz1, hz2, rfl⟩
theorem cellsTh_set : ∀ (hs : List Th) (j : Nat) (x : Th), j < hs.length → ((cellsG thL hs).set (j * 2) (.string x.tag)).set (j * 2 + 1) (.slice x.A x.n x.c) = cellsG thL (hs.set j x) := by
  intro hs
  induction hs with
  | nil => intro j x h; simp at h
  | cons a r ih =>
    intro j x h
    cases j with
    | zero => rfl
    | succ j =>
      have h1 := ih j x (by simpa using h)
      unfold cellsG at h1 ⊢
      rw [List.flatMap_cons, List.set_cons_succ, List.flatMap_cons, ← h1]
      show List.set (List.set (Value.string a.tag :: Value.slice a.A a.n a.c :: _) _ _) _ _ = _
      rw [show (j + 1) * 2 = j * 2 + 1 + 1 by omega]
      rfl
theorem own_thset {w : World} {base q n c : Nat} {hs : List Th} (h : OwnG 36 2 thL w base (.slice (some ⟨q, 0, none⟩) n c) hs) {j : Nat} (hj : j < hs.length) (x : Th) :
    OwnG 36 2 thL ((w.setCell ⟨q, j * 2, none⟩ (.string x.tag)).setCell ⟨q, j * 2 + 1, none⟩ (.slice x.A x.n x.c)) base (.slice (some ⟨q, 0, none⟩) n c) (hs.set j x) := by
  have hn : n = hs.length := by
    rcases h.2 with ⟨h0, _⟩ | ⟨g, cap, cur, h0, _⟩
    · cases h0
    · injection h0 with _ h1 _
  subst hn
  have h3 := (World.ownsRow.stored (World.ownsRow.stored h (j * 2) (.string x.tag)).1 (j * 2 + 1) (.slice x.A x.n x.c)).1
  rw [cellsTh_set hs j x hj] at h3
  unfold OwnG
  rw [List.length_set]
  exact h3
theorem own_thcell {w : World} {base q n c : Nat} {hs : List Th} (h : OwnG 36 2 thL w base (.slice (some ⟨q, 0, none⟩) n c) hs) {j : Nat} (hj : j < hs.length) : (∃ x, w.cell? ⟨q, j * 2, none⟩ = some (.string x)) ∧ (∃ A m k, w.cell? ⟨q, j * 2 + 1, none⟩ = some (.slice A m k)) ∧ w.frozen? ⟨q, j * 2, none⟩ = false ∧ w.frozen? ⟨q, j * 2 + 1, none⟩ = false ∧ q < w.heap.size := by
  have hn : n = hs.length := by
    rcases h.2 with ⟨h0, _⟩ | ⟨g, cap, cur, h0, _⟩
    · cases h0
    · injection h0 with _ h1 _
  subst hn
  have hx : hs[j]? = some hs[j] := List.getElem?_eq_getElem hj
  have hlt := (h.lt (g := q) rfl).2
  have hx2 := h
  unfold OwnG at hx2
  have hf0 := World.ownsRow.frozenAt hx2 (j * 2)
  have hf1 := World.ownsRow.frozenAt hx2 (j * 2 + 1)
  obtain ⟨A2, c2, e, _, hr2⟩ := h.rd (by omega) thL_len
  injection e with e1 e2 e3
  subst e1
  obtain ⟨b3, o3, e4, _, hc3⟩ := hr2 (by omega)
  injection e4 with e4
  injection e4 with e5 e6
  subst e5 e6
  have h0 := hc3 j _ hx 0 (by omega)
  have h1 := hc3 j _ hx 1 (by omega)
  rw [Nat.zero_add, Nat.add_zero] at h0
  rw [Nat.zero_add] at h1
  exact ⟨⟨_, h0⟩, ⟨_, _, _, h1⟩, hf0, hf1, hlt⟩
end Go.Proofs.Ytpplnapfpoloiaa

/-
  Layer 4: Read, walked.
-/
namespace Go.Proofs.Ytpplnapfpoloiaa
open Go.RowKit Go.ChangeShapes Go.WideShapes Go.Deep
set_option linter.unusedVariables false
set_option linter.unusedSimpArgs false

theorem u2_l (A : Option Addr) (n c : Nat) (L : List Int) (a : Nat) (x : Int) (hx : x = (a : Int)) (w : World) (h : RdB w w.heap.size A L) (hn : n = L.length) (hb : Bytes L) (ha : a + 2 ≤ n) (hN : n ≤ 140737488355328) :
    Calls Try.prog 62 #[.slice A n c, .int .i64 x, .int .i64 2] w fun e w' => e = .returned (.tuple #[.int .i64 (numAt (fnL L) a 2), .int .i64 0]) ∧ w' = w := by
  subst hn; subst hx
  have h0 := be_u A L.length c (fnL L) (a : Int) 2 w (rdb_rd h) (bytes_fn hb) (by unfold In64; omega) (by unfold In64; omega) hN
  have e : uAns (fnL L) L.length (a : Int) 2 = (numAt (fnL L) a 2, 0) := by
    unfold uAns
    rw [if_neg (by omega), if_pos (by unfold Fits; omega), Int.toNat_natCast]
    rfl
  rw [e] at h0
  exact h0
/-- What 'Read' leaves. -/
def RdP (R : Int × List Tb) (w : World) (e : Ending) (w' : World) : Prop := ∃ v, e = .returned (.tuple #[v, .int .i64 R.1]) ∧ OwnT w' w.heap.size v R.2 ∧ Since w w'
theorem rdP_no {R : Int × List Tb} {w w' : World} {x : Int} (h : R = (x, [])) (hS : Since w w') : RdP R w (.returned (.tuple #[.slice none 0 0, .int .i64 x])) w' := by
  subst h
  exact ⟨_, rfl, OwnT.nil _ _, hS⟩
theorem rdP_ok {R : Int × List Tb} {w w' : World} {v : Value} {D : List Tb} (h : R = (0, D)) (hO : OwnT w' w.heap.size v D) (hS : Since w w') : RdP R w (.returned (.tuple #[v, .int .i64 0])) w' := by
  subst h
  exact ⟨_, rfl, hO, hS⟩
theorem rd4_start (L : List Int) (k i : Nat) (last : ByteArray) : rd4Go L k i last = contR (rd4Go L k i last) [] := by
  unfold contR
  by_cases h : (rd4Go L k i last).1 = 0
  · rw [if_pos h, List.nil_append]; exact Prod.ext h rfl
  · rw [if_neg h]
    cases k with
    | zero => exact absurd rfl h
    | succ k =>
      unfold rd4Go at h ⊢
      by_cases h1 : (rd1 L (12 + 16 * i) last).1 = 0
      · rw [if_pos h1] at h ⊢
        by_cases h2 : (rd4Go L k (i + 1) (rd1 L (12 + 16 * i) last).2.tag).1 = 0
        · rw [if_pos h2] at h; exact absurd rfl h
        · rw [if_neg h2]
      · rw [if_neg h1]
set_option maxRecDepth 1000000 in
set_option maxHeartbeats 32000000 in
theorem sf_read4 (A : Option Addr) (n c : Nat) (L : List Int) (w : World) (h : RdB w w.heap.size A L) (hn : n = L.length) (hb : Bytes L) (hx : n ≤ 140737488355328) (hnc : n ≤ c) :
    Calls Try.prog 24 #[.slice A n c] w (RdP (rd4 L) w) := by
  have hnI : (n : Int) ≤ 140737488355328 := by omega
  obtain ⟨RR, ER⟩ : ∃ RR, RR = rd4 L := ⟨_, rfl⟩
  rw [← ER]
  unfold rd4 at ER
  rw [← hn] at ER
  have HN := Lib.hid hn
  have HB := Lib.hid hb
  clear hn hb
  by_cases h1 : 1048576 < n
  · rw [if_pos h1] at ER
    have E := Lib.hid ER
    have d1 : (1048576 : Int) < (n : Int) := by omega
    clear ER h
    go_enter Try.func24, Try.ntmps24
    go_wp2_with fail
    refine bodyPost_ret (by simp only [results, Try.results24]; go_simp) rfl (rdP_no E.out (by (repeat (first | with_reducible (exact Since.refl _) | with_reducible assumption | with_reducible (refine Since.drew ?_) | with_reducible (refine Since.drewN ?_ _) | with_reducible (refine Since.alloc ?_ _) | (with_reducible (refine Since.setCell ?_ ?_ _); rotate_left; focus (first | (simp; done) | (simp; omega) | omega)) | (with_reducible (refine Since.trans ?_ (by with_reducible assumption)))))))
  rw [if_neg h1] at ER
  have d1 : ¬ (1048576 : Int) < (n : Int) := by omega
  by_cases h2 : n < 12
  · rw [if_pos h2] at ER
    have E := Lib.hid ER
    have d2 : (n : Int) < 12 := by omega
    clear ER h
    go_enter Try.func24, Try.ntmps24
    go_wp2_with fail
    refine bodyPost_ret (by simp only [results, Try.results24]; go_simp) rfl (rdP_no E.out (by (repeat (first | with_reducible (exact Since.refl _) | with_reducible assumption | with_reducible (refine Since.drew ?_) | with_reducible (refine Since.drewN ?_ _) | with_reducible (refine Since.alloc ?_ _) | (with_reducible (refine Since.setCell ?_ ?_ _); rotate_left; focus (first | (simp; done) | (simp; omega) | omega)) | (with_reducible (refine Since.trans ?_ (by with_reducible assumption)))))))
  rw [if_neg h2] at ER
  have d2 : ¬ (n : Int) < 12 := by omega
  have HU0 := Lib.hid (u4_l A n c L 0 0 rfl w h HN.out HB.out (by omega) hx)
  have HU2 := Lib.hid (u2_l A n c L 4 4 rfl w h HN.out HB.out (by omega) hx)
  have hr := numAt_range (f := fnL L) (p := 4) (k := 2) (fun j hj => bytes_fn HB.out j (by have := HN.out; omega))
  simp only [Int.reducePow] at hr
  obtain ⟨V, hV⟩ : ∃ V, numAt (fnL L) 0 4 = V := ⟨_, rfl⟩
  obtain ⟨K, hK⟩ : ∃ K : Nat, numAt (fnL L) 4 2 = K := ⟨(numAt (fnL L) 4 2).toNat, by omega⟩
  rw [hV] at HU0 ER
  rw [hK] at HU2 ER hr
  rw [Int.toNat_natCast] at ER
  clear hV hK
  by_cases hv : V = 65536
  · subst hv
    by_cases hk1 : K < 1
    · rw [if_pos (.inr (.inl (by omega)))] at ER
      have E := Lib.hid ER
      have d3 : (K : Int) < 1 := by omega
      clear ER h hr hk1
      go_enter Try.func24, Try.ntmps24
      go_wp2_with (first | (go_at_call 62; (with_reducible refine HU0.out.mono ?_); rintro e w2 ⟨rfl, hw2⟩; have hw3 := hw2.symm; subst hw3; clear hw2) | (go_at_call 62; (with_reducible refine HU2.out.mono ?_); rintro e w2 ⟨rfl, hw2⟩; have hw3 := hw2.symm; subst hw3; clear hw2))
      refine bodyPost_ret (by simp only [results, Try.results24]; go_simp) rfl (rdP_no E.out (by (repeat (first | with_reducible (exact Since.refl _) | with_reducible assumption | with_reducible (refine Since.drew ?_) | with_reducible (refine Since.drewN ?_ _) | with_reducible (refine Since.alloc ?_ _) | (with_reducible (refine Since.setCell ?_ ?_ _); rotate_left; focus (first | (simp; done) | (simp; omega) | omega)) | (with_reducible (refine Since.trans ?_ (by with_reducible assumption)))))))
    have d3 : ¬ (K : Int) < 1 := by omega
    by_cases hk2 : 64 < K
    · rw [if_pos (.inr (.inr (by omega)))] at ER
      have E := Lib.hid ER
      have d4 : (64 : Int) < (K : Int) := by omega
      clear ER h hr hk1 hk2
      go_enter Try.func24, Try.ntmps24
      go_wp2_with (first | (go_at_call 62; (with_reducible refine HU0.out.mono ?_); rintro e w2 ⟨rfl, hw2⟩; have hw3 := hw2.symm; subst hw3; clear hw2) | (go_at_call 62; (with_reducible refine HU2.out.mono ?_); rintro e w2 ⟨rfl, hw2⟩; have hw3 := hw2.symm; subst hw3; clear hw2))
      refine bodyPost_ret (by simp only [results, Try.results24]; go_simp) rfl (rdP_no E.out (by (repeat (first | with_reducible (exact Since.refl _) | with_reducible assumption | with_reducible (refine Since.drew ?_) | with_reducible (refine Since.drewN ?_ _) | with_reducible (refine Since.alloc ?_ _) | (with_reducible (refine Since.setCell ?_ ?_ _); rotate_left; focus (first | (simp; done) | (simp; omega) | omega)) | (with_reducible (refine Since.trans ?_ (by with_reducible assumption)))))))
    have d4 : ¬ (64 : Int) < (K : Int) := by omega
    rw [if_neg (by omega)] at ER
    have m1 : IntKind.i64.wrap (16 * (K : Int)) = 16 * (K : Int) := by rw [IntKind.wrap_i64]; omega
    have m2 : IntKind.i64.wrap (12 + 16 * (K : Int)) = 12 + 16 * (K : Int) := by rw [IntKind.wrap_i64]; omega
    by_cases hl : n < 12 + 16 * K
    · rw [if_pos hl] at ER
      have E := Lib.hid ER
      have d5 : (n : Int) < 12 + 16 * (K : Int) := by omega
      clear ER h hr hk1 hk2 hl
      go_enter Try.func24, Try.ntmps24
      go_wp2_with (first | (go_at_call 62; (with_reducible refine HU0.out.mono ?_); rintro e w2 ⟨rfl, hw2⟩; have hw3 := hw2.symm; subst hw3; clear hw2) | (go_at_call 62; (with_reducible refine HU2.out.mono ?_); rintro e w2 ⟨rfl, hw2⟩; have hw3 := hw2.symm; subst hw3; clear hw2))
      refine bodyPost_ret (by simp only [results, Try.results24]; go_simp) rfl (rdP_no E.out (by (repeat (first | with_reducible (exact Since.refl _) | with_reducible assumption | with_reducible (refine Since.drew ?_) | with_reducible (refine Since.drewN ?_ _) | with_reducible (refine Since.alloc ?_ _) | (with_reducible (refine Since.setCell ?_ ?_ _); rotate_left; focus (first | (simp; done) | (simp; omega) | omega)) | (with_reducible (refine Since.trans ?_ (by with_reducible assumption)))))))
    rw [if_neg hl] at ER
    have d5 : ¬ (n : Int) < 12 + 16 * (K : Int) := by omega
    have E := Lib.hid ER
    have hK64 : K ≤ 64 := by omega
    have HRD := Lib.hid (fun (i : Nat) (last : ByteArray) (w2 : World) (h2 : Since w w2) (hi : i < K) => sf_read1 A n c L (12 + 16 * i) last w2 (h.on h2) HN.out HB.out (by omega) (by omega) hnc)
    clear ER h hr hk2 hl
    go_enter Try.func24, Try.ntmps24
    go_wp2_with (first | (go_at_call 62; (with_reducible refine HU0.out.mono ?_); rintro e w2 ⟨rfl, hw2⟩; have hw3 := hw2.symm; subst hw3; clear hw2) | (go_at_call 62; (with_reducible refine HU2.out.mono ?_); rintro e w2 ⟨rfl, hw2⟩; have hw3 := hw2.symm; subst hw3; clear hw2) | (at_make; refine wpList_make_g rfl _ _ 22 36 rfl (by omega) thL_len 40 ⟨ByteArray.empty, none, 0, 0⟩ Try.underlying22 infoTb2 K rfl rfl (by omega) (by simp only [maxLen]; omega) w.heap.size (Nat.le_refl _) ?_; intro w1 hO1 hg1))
    have hS1 : Since w w1 := since_grown (Since.refl w) hg1 (fun q hq => by cases hq)
    have hb1 := (hO1.lt (g := w.heap.size) rfl).2
    obtain ⟨hb0, hbe⟩ : ∃ hb0, hb0 = w.heap.size := ⟨_, rfl⟩
    have hbw : w.heap.size ≤ hb0 := by omega
    rw [← hbe] at hb1 ⊢
    have hO1 : OwnG 36 2 thL w1 w.heap.size (.slice (some ⟨hb0, 0, none⟩) K K) (List.replicate K ⟨ByteArray.empty, none, 0, 0⟩) := by rw [hbe]; exact hO1
    clear hbe hg1 HU0 HU2 m1 m2 d5 hk1
    go_loopw [9, 49] (fun z y wr => ∃ (j : Nat) (hs : List Th) (D : List Tb) (last : ByteArray), j ≤ K ∧ y = .int .i64 (j : Int) ∧ z = .string last ∧ D.length = j ∧ hs.length = K ∧ OwnG 36 2 thL wr w.heap.size (.slice (some ⟨hb0, 0, none⟩) K K) hs ∧ Since w wr ∧ Hid (∀ (i : Nat) x T, i < j → hs[i]? = some x → D[i]? = some T → x.tag = T.tag ∧ OwnB wr w.heap.size (.slice x.A x.n x.c) T.data) ∧ Hid (RR = contR (rd4Go L (K - j) j last) D)) (fun _ y _ => K - (intOf y).toNat)
    case atStart => exact ⟨0, _, [], ByteArray.empty, by omega, rfl, rfl, rfl, by simp, hO1, hS1, Lib.hid (fun i x T hi => absurd hi (by omega)), Lib.hid (by rw [E.out, Nat.sub_zero]; exact rd4_start L K 0 _)⟩
    case round =>
      obtain ⟨j, hs, D, last, hj, rfl, rfl, hD, hsl, hO, hS, HK, HR⟩ := hrel
      clear hO1 hS1 hb1
      by_cases hjn : j < K
      · have hjn' : (j : Int) < K := by omega
        have HRJ := Lib.hid (fun (w2 : World) (h2 : Since w w2) => HRD.out j last w2 h2 hjn)
        have HR1 := HR.out
        rw [show K - j = (K - (j + 1)) + 1 by omega] at HR1
        have ej : ((12 + 16 * j : Nat) : Int) = 12 + 16 * (j : Int) := by omega
        rw [ej] at HRJ
        unfold RdP4 at HRJ
        have m1 : IntKind.i64.wrap (16 * (j : Int)) = 16 * (j : Int) := by rw [IntKind.wrap_i64]; omega
        have m2 : IntKind.i64.wrap (12 + 16 * (j : Int)) = 12 + 16 * (j : Int) := by rw [IntKind.wrap_i64]; omega
        by_cases h0 : (rd1 L (12 + 16 * j) last).1 = 0
        · rw [rd4_next h0] at HR1
          rw [h0] at HRJ
          have HR2 := Lib.hid HR1
          obtain ⟨T, hT⟩ : ∃ T, T = (rd1 L (12 + 16 * j) last).2 := ⟨_, rfl⟩
          rw [← hT] at HRJ HR2
          clear HR1 h0 hT HR HRD ej
          obtain ⟨s, DL⟩ := T
          simp only at HRJ HR2
          have hjs : j < hs.length := by omega
          go_upto_region 19 with (go_at_call 63; (with_reducible refine (HRJ.out _ hS).mono ?_); rintro e w2 ⟨v2, rfl, hO2, hS2⟩; obtain ⟨A2, c2, rfl, hc2, _⟩ := hO2.rd (by omega) byL_len)
          have hO3 := hO.since hS2
          obtain ⟨⟨x1, q1⟩, ⟨y1, y2, y3, q2⟩, q3, q4, q5⟩ := own_thcell hO3 hjs
          have hb02 : ¬ hb0 = w2.heap.size := by omega
          have hb03 : ¬ w2.heap.size = hb0 := by omega
          go_region
          all_goals go_wp2_with fail
          all_goals go_roundw
          case measure => simp [intOf]; omega
          case rel =>
            have hne : 36 ≠ 5 := by decide
            have hkb : KeepBut hb0 w2 ((w2.setCell ⟨hb0, j * 2, none⟩ (.string s)).setCell ⟨hb0, j * 2 + 1, none⟩ (.slice A2 DL.length c2)) := ((KeepBut.refl hb0 w2).set _ _).set _ _
            refine ⟨j + 1, hs.set j ⟨s, A2, DL.length, c2⟩, D ++ [⟨s, DL⟩], s, by omega, by first | rfl | go_num | simp, rfl, by simp [hD], by rw [List.length_set]; exact hsl, OwnG.since (own_thset hO3 hjs ⟨s, A2, DL.length, c2⟩) (((Since.refl _).alloc _).drew), (((((hS.trans hS2).setCell hbw _).setCell hbw _).alloc _).drew), Lib.hid (fun i x T hi hx hT => ?_), HR2⟩
            by_cases hij : i = j
            · subst hij
              rw [List.getElem?_set_self hjs] at hx
              injection hx with hx
              subst hx
              rw [List.getElem?_append_right (by omega), hD, Nat.sub_self] at hT
              injection hT with hT
              subst hT
              exact ⟨rfl, OwnG.since (OwnG.but (hO2.low hS.below.size) hkb (fun e => own_apart hO3 hO2 hne rfl e)) (((Since.refl _).alloc _).drew)⟩
            · rw [List.getElem?_set_ne (fun h => hij h.symm)] at hx
              rw [List.getElem?_append_left (by omega)] at hT
              obtain ⟨e1, hk⟩ := HK.out i x T (by omega) hx hT
              have hk2 := hk.since hS2
              exact ⟨e1, OwnG.since (OwnG.but hk2 hkb (fun e => own_apart hO3 hk2 hne rfl e)) (((Since.refl _).alloc _).drew)⟩
        · rw [rd4_stop h0] at HR1
          have HR2 := Lib.hid HR1
          obtain ⟨x, hx1⟩ : ∃ x, x = (rd1 L (12 + 16 * j) last).1 := ⟨_, rfl⟩
          rw [← hx1] at HRJ HR2 h0
          clear HR1 hx1 HR HRD ej HK
          go_wp2_with (go_at_call 63; (with_reducible refine (HRJ.out _ hS).mono ?_); rintro e w2 ⟨v2, rfl, hO2, hS2⟩; obtain ⟨A2, c2, rfl, hc2, _⟩ := hO2.rd (by omega) byL_len)
          refine bodyPost_ret (by simp only [results, Try.results24]; go_simp) rfl (rdP_no HR2.out (by (repeat (first | with_reducible (exact Since.refl _) | with_reducible assumption | with_reducible (refine Since.drew ?_) | with_reducible (refine Since.drewN ?_ _) | with_reducible (refine Since.alloc ?_ _) | (with_reducible (refine Since.setCell ?_ ?_ _); rotate_left; focus (first | (simp; done) | (simp; omega) | omega)) | (with_reducible (refine Since.trans ?_ (by with_reducible assumption)))))))
      · obtain rfl : K = j := by omega
        have hjn' : ¬ (K : Int) < (K : Int) := by omega
        have EF := Lib.hid (show RR = (0, D) by rw [HR.out, Nat.sub_self]; unfold rd4Go contR; rw [if_pos rfl, List.append_nil])
        have HO := Lib.hid (show OwnT wr w.heap.size (.slice (some ⟨hb0, 0, none⟩) K K) D from ⟨hs, by rw [hsl, hD], hO, fun i x T h1 h2 => HK.out i x T (by
          rcases Nat.lt_or_ge i hs.length with h | h
          · omega
          · rw [List.getElem?_eq_none h] at h1; cases h1) h1 h2⟩)
        clear HK hO HR HRD hD hsl
        go_wp2_with fail
        refine bodyPost_ret (by simp only [results, Try.results24]; go_simp) rfl (rdP_ok EF.out HO.out hS)
  · rw [if_pos (.inl hv)] at ER
    have E := Lib.hid ER
    clear ER h hr
    go_enter Try.func24, Try.ntmps24
    go_wp2_with (first | (go_at_call 62; (with_reducible refine HU0.out.mono ?_); rintro e w2 ⟨rfl, hw2⟩; have hw3 := hw2.symm; subst hw3; clear hw2) | (go_at_call 62; (with_reducible refine HU2.out.mono ?_); rintro e w2 ⟨rfl, hw2⟩; have hw3 := hw2.symm; subst hw3; clear hw2))
    refine bodyPost_ret (by simp only [results, Try.results24]; go_simp) rfl (rdP_no E.out (by (repeat (first | with_reducible (exact Since.refl _) | with_reducible assumption | with_reducible (refine Since.drew ?_) | with_reducible (refine Since.drewN ?_ _) | with_reducible (refine Since.alloc ?_ _) | (with_reducible (refine Since.setCell ?_ ?_ _); rotate_left; focus (first | (simp; done) | (simp; omega) | omega)) | (with_reducible (refine Since.trans ?_ (by with_reducible assumption)))))))
end Go.Proofs.Ytpplnapfpoloiaa

/-
  Layer 4: 'alive' holds.
-/
namespace Go.Proofs.Ytpplnapfpoloiaa
open Go.RowKit Go.ChangeShapes Go.WideShapes Go.Deep
set_option linter.unusedVariables false
set_option linter.unusedSimpArgs false

def exT : List Tb := [⟨⟨#[97, 98, 99, 100]⟩, [1, 2, 3]⟩]
def exB4 : List Int := [0, 1, 0, 0, 0, 1, 0, 16, 0, 0, 0, 0, 97, 98, 99, 100, 1, 2, 3, 0, 0, 0, 0, 28, 0, 0, 0, 3, 1, 2, 3, 0]
theorem exT_file : file4 exT = exB4 := by decide +kernel
theorem exB_rd : rd4 exB4 = (0, exT) := by kernel_rfl
theorem exT_right : right4 exT := by
  refine ⟨by simp [exT], by simp [exT], by decide +kernel, fun j T h => ?_, fun j T U h h2 => ?_⟩
  · cases j with
    | zero =>
      simp only [exT, List.getElem?_cons_zero, Option.some.injEq] at h
      subst h
      exact of_decide_eq_true (show TagG _ = true by kernel_rfl)
    | succ j => simp [exT] at h
  · simp [exT] at h2
theorem exT_few : FewT exT := ⟨by simp [exT], fun T hT => by
  simp only [exT, List.mem_singleton] at hT
  subst hT
  exact ⟨by simp, by show 4 ≤ maxLen; simp only [maxLen]; omega⟩⟩
theorem exT_bytes : ∀ T, T ∈ exT → Bytes T.data := fun T hT => by
  simp only [exT, List.mem_singleton] at hT
  subst hT
  unfold Bytes
  decide
theorem exB_bytes : Bytes exB4 := by unfold Bytes exB4; decide
theorem al_tb (w : World) (b d : Nat) (hb : b = w.heap.size) (hd : d = w.heap.size + 1) : RdTL ((w.alloc (.cells #[.int .u8 1, .int .u8 2, .int .u8 3] 5)).alloc (.cells #[.string { data := #[97, 98, 99, 100] }, .slice (some ⟨b, 0, none⟩) 3 3] 36)) ((w.alloc (.cells #[.int .u8 1, .int .u8 2, .int .u8 3] 5)).alloc (.cells #[.string { data := #[97, 98, 99, 100] }, .slice (some ⟨b, 0, none⟩) 3 3] 36)).heap.size (some ⟨d, 0, none⟩) exT := by
  have h1 := rdb_new w b hb 5 #[.int .u8 1, .int .u8 2, .int .u8 3] [1, 2, 3] rfl
  have h2 := tb_one (w := w.alloc (.cells #[.int .u8 1, .int .u8 2, .int .u8 3] 5)) d (by rw [hd]; simp) 36 ⟨{ data := #[97, 98, 99, 100] }, some ⟨b, 0, none⟩, 3, 3⟩
  refine ⟨_, rfl, h2, fun j x T hx hT => ?_⟩
  cases j with
  | zero =>
    simp only [exT, List.getElem?_cons_zero, Option.some.injEq] at hx hT
    subst hx hT
    exact ⟨rfl, rfl, h1.on ((Since.refl _).alloc _)⟩
  | succ j => simp at hx
theorem al_write4 (A : Option Addr) (c : Nat) (w : World) (h : RdTL w w.heap.size A exT) : Calls Try.prog 18 #[.slice A 1 c] w fun e w' => ∃ A' c', e = .returned (.tuple #[.slice A' 32 c', .int .i64 0]) ∧ 32 ≤ c' ∧ RdB w' w'.heap.size A' exB4 ∧ Since w w' := by
  refine (sf_write A 1 c exT w h rfl exT_few exT_bytes).mono ?_
  rintro e w' ⟨v, rfl, hO, hS⟩
  rw [if_pos (rightG_yes exT_right)] at hO ⊢
  rw [exT_file] at hO
  obtain ⟨A', c', rfl, hc, hr⟩ := hO.rd (by omega) byL_len
  exact ⟨A', c', rfl, hc, hr, hS⟩
theorem al_read4 (A : Option Addr) (c : Nat) (w : World) (h : RdB w w.heap.size A exB4) (hc : 32 ≤ c) : Calls Try.prog 24 #[.slice A 32 c] w fun e w' => ∃ A' c', e = .returned (.tuple #[.slice A' 1 c', .int .i64 0]) ∧ RdTL w' w'.heap.size A' exT ∧ Since w w' := by
  refine (sf_read4 A 32 c exB4 w h rfl exB_bytes (by omega) hc).mono ?_
  rintro e w' ⟨v, rfl, hO, hS⟩
  rw [exB_rd] at hO ⊢
  obtain ⟨A', c', rfl, _, hr⟩ := hO.rd
  exact ⟨A', c', rfl, hr, hS⟩
set_option maxRecDepth 100000 in
set_option maxHeartbeats 8000000 in
theorem alive04 (w : World) : Calls Try.prog 15 #[] w fun e w' => e = .returned (.bool true) ∧ Since w w' := by
  have kt : ((strOf exB4).toList == [0, 1, 0, 0, 0, 1, 0, 16, 0, 0, 0, 0, 97, 98, 99, 100, 1, 2, 3, 0, 0, 0, 0, 28, 0, 0, 0, 3, 1, 2, 3, 0]) = true := by kernel_rfl
  have hT := Lib.hid (al_tb w w.heap.size (w.heap.size + 1) rfl rfl)
  go_enter Try.func15, Try.ntmps15
  go_wp2_with (first | (go_at_call 18; (with_reducible refine (al_write4 _ _ _ hT.out).mono ?_); rintro e w2 ⟨A2, c2, rfl, hc2, hB2, hS2⟩; have hT2 : Since w w2 := (((Since.refl w).alloc _).alloc _).trans hS2) | (go_at_call 24; (with_reducible refine (al_read4 A2 c2 _ hB2 hc2).mono ?_); rintro e w3 ⟨A3, c3, rfl, hR3, hS3⟩; have hT3 := hT2.trans hS3; obtain ⟨b3, o3, A4, c4, rfl, hb3, hc5, hc6, _⟩ := hR3.row (j := 0) (T := ⟨⟨#[97, 98, 99, 100]⟩, [1, 2, 3]⟩) rfl; simp only [Nat.zero_mul, Nat.add_zero] at hc5 hc6; obtain ⟨b2, o2, rfl, hbz2, hcc2⟩ := hB2.on hS3 (by decide); have hcv := fun k => conv_str (w := w3) (b := b2) (o := o2) (M := exB4) (fun j hj => by have h1 := hcc2 j _ (fnL_get hj) 0 (by omega); rw [Nat.mul_one, Nat.add_zero] at h1; exact h1) exB_bytes 32 rfl k))
  go_ret
  exact ⟨by first | rfl | simp, by (repeat (first | with_reducible (exact Since.refl _) | with_reducible assumption | with_reducible (refine Since.drew ?_) | with_reducible (refine Since.drewN ?_ _) | with_reducible (refine Since.alloc ?_ _) | (with_reducible (refine Since.setCell ?_ ?_ _); rotate_left; focus (first | (simp; done) | (simp; omega) | omega)) | (with_reducible (refine Since.trans ?_ (by with_reducible assumption)))))⟩
end Go.Proofs.Ytpplnapfpoloiaa

/-
  Layer 4: the law SfntWrites, walked.
-/
namespace Go.Proofs.Ytpplnapfpoloiaa
open Go.RowKit Go.ChangeShapes Go.WideShapes Go.Deep
set_option linter.unusedVariables false
set_option linter.unusedSimpArgs false

theorem few_of {TT : List Tb} (h : NotGreatT false TT) : FewT TT := by
  obtain ⟨h1, h2, _⟩ := h rfl
  exact ⟨by omega, fun T hT => ⟨by have := (h2 T hT).1; omega, by have := (h2 T hT).2; simp only [maxLen]; omega⟩⟩
theorem ownT_rdv {w : World} {base n c : Nat} {A : Option Addr} {TT : List Tb} (h : OwnT w base (.slice A n c) TT) : RdTL w w.heap.size A TT := by
  obtain ⟨A', c', e, _, hr⟩ := h.rd
  injection e with e1 e2 e3
  rw [e1]; exact hr
set_option maxRecDepth 1000000 in
set_option maxHeartbeats 32000000 in
theorem walk_sfntwrites (A : Option Addr) (c : Nat) (TT : List Tb) (w : World) (h : RdTL w w.heap.size A TT) (hn : TT.length ≤ maxLen) (hm : ∀ T, T ∈ TT → T.data.length ≤ maxLen ∧ T.tag.size ≤ maxLen) (hb : ∀ T, T ∈ TT → Bytes T.data) :
    Calls Try.prog 3 #[.slice A TT.length c] w fun e w' => e = .returned (.bool true) ∧ Since w w' := by
  have HG := Lib.hid (fun (w2 : World) (h2 : Since w w2) => rf_greatT A c TT w2 (h.on h2) hn hm)
  have HC := Lib.hid (fun (w2 : World) (h2 : Since w w2) (hf : FewT TT) => rf_copyT A c TT w2 (h.on h2) (by have := hf.1; omega) (fun T hT => (hf.2 T hT).1))
  obtain ⟨N, hN⟩ : ∃ N, N = TT.length := ⟨_, rfl⟩
  have HWR := Lib.hid (fun (A' : Option Addr) (c' : Nat) (w2 : World) (h2 : RdTL w2 w2.heap.size A' TT) (hf : FewT TT) => sf_write A' N c' TT w2 h2 hN hf hb)
  have HRR := Lib.hid (fun (A' : Option Addr) (c' : Nat) (w2 : World) (h2 : RdTL w2 w2.heap.size A' TT) (hf : FewT TT) => sf_right A' N c' TT w2 h2 hN hf)
  have HFR := Lib.hid (fun (w2 : World) (h2 : Since w w2) (hf : FewT TT) => rf_right4 A N c TT w2 (h.on h2) hN hf)
  have HSM := Lib.hid (fun (A' : Option Addr) (c' : Nat) (w2 : World) (h1 : RdTL w2 w2.heap.size A' TT) (h2 : Since w w2) => rf_sameT A' A c' c N N TT w2 h1 (h.on h2) hN hN hn)
  have HFW := Lib.hid (fun (w2 : World) (h2 : Since w w2) (hf : FewT TT) (hR : right4 TT) => rf_write4 A N c TT w2 (h.on h2) hN hf hb hR)
  rw [← hN] at HG HC ⊢
  unfold GreatTP at HG
  clear h hn hm hb hN
  by_cases hR : right4 TT

  · have hG := rightG_yes hR
    rw [hG] at HRR HFR HWR
    simp only [Bool.false_eq_true, if_true, if_false, reduceIte] at HWR
    go_enter Try.func3, Try.ntmps3
    go_upto_region 5 with (first | (go_at_call 15; (with_reducible refine (alive04 _).mono ?_); rintro e w1 ⟨rfl, hS1⟩) | (go_at_call 16; (with_reducible refine (HG.out _ hS1).mono ?_); rintro e w2 ⟨g, rfl, hg, hS2⟩; have hA2 := hS1.trans hS2; have HNG := Lib.hid hg; clear hg; cases g))
    · have HF := Lib.hid (few_of HNG.out)
      clear HNG HG
      go_wp2_with (first | (go_at_call 17; (with_reducible refine (HC.out _ hA2 HF.out).mono ?_); rintro e w3 ⟨A3, c3, rfl, hO3, hS3⟩; have hA3 := hA2.trans hS3) | (go_at_call 18; (with_reducible refine (HWR.out A3 c3 _ (ownT_rdv hO3) HF.out).mono ?_); rintro e w4 ⟨v4, rfl, hO4, hS4⟩; have hA4 := hA3.trans hS4; have hO34 := hO3.since hS4; obtain ⟨A4, c4, rfl, hc4, hr4⟩ := hO4.rd (by omega) byL_len) | (go_at_call 19; (with_reducible refine (HFR.out _ hA4 HF.out).mono ?_); rintro e w5 ⟨rfl, hS5⟩; have hA5 := hA4.trans hS5; have hO35 := hO34.since hS5; have hr5 := hr4.on hS5) | (go_at_call 20; (with_reducible refine (HRR.out A3 c3 _ (ownT_rdv hO35) HF.out).mono ?_); rintro e w6 ⟨rfl, hS6⟩; have hA6 := hA5.trans hS6; have hO36 := hO35.since hS6; have hr6 := hr5.on hS6) | (go_at_call 21; (with_reducible refine (HSM.out A3 c3 _ (ownT_rdv hO36) hA6).mono ?_); rintro e w7 ⟨rfl, hS7⟩; have hA7 := hA6.trans hS7; have hr7 := hr6.on hS7) | (go_at_call 23; (with_reducible refine (HFW.out _ hA7 HF.out hR).mono ?_); rintro e w8 ⟨A8, c8, rfl, hr8, hS8⟩; have hA8 := hA7.trans hS8; have hr9 := hr7.on hS8) | (go_at_call 22; (with_reducible refine (same_l A4 A8 _ _ c4 c8 (file4 TT) (file4 TT) _ rfl rfl hr9 hr8 rfl).mono ?_); rintro e w9 ⟨rfl, hw9⟩; have hw10 := hw9.symm; subst hw10; clear hw9))
      go_ret
      exact ⟨by first | rfl | simp, by first | exact hA8 | exact hA7⟩
    · go_wp2_with fail
      go_ret
      exact ⟨by first | rfl | simp, hA2⟩

  · have hG := rightG_no hR
    rw [hG] at HRR HFR HWR
    simp only [Bool.false_eq_true, if_true, if_false, reduceIte] at HWR
    go_enter Try.func3, Try.ntmps3
    go_upto_region 5 with (first | (go_at_call 15; (with_reducible refine (alive04 _).mono ?_); rintro e w1 ⟨rfl, hS1⟩) | (go_at_call 16; (with_reducible refine (HG.out _ hS1).mono ?_); rintro e w2 ⟨g, rfl, hg, hS2⟩; have hA2 := hS1.trans hS2; have HNG := Lib.hid hg; clear hg; cases g))
    · have HF := Lib.hid (few_of HNG.out)
      clear HNG HG
      go_wp2_with (first | (go_at_call 17; (with_reducible refine (HC.out _ hA2 HF.out).mono ?_); rintro e w3 ⟨A3, c3, rfl, hO3, hS3⟩; have hA3 := hA2.trans hS3) | (go_at_call 18; (with_reducible refine (HWR.out A3 c3 _ (ownT_rdv hO3) HF.out).mono ?_); rintro e w4 ⟨v4, rfl, hO4, hS4⟩; have hA4 := hA3.trans hS4; have hO34 := hO3.since hS4; obtain ⟨A4, c4, rfl, hc4, hr4⟩ := hO4.rd (by omega) byL_len) | (go_at_call 19; (with_reducible refine (HFR.out _ hA4 HF.out).mono ?_); rintro e w5 ⟨rfl, hS5⟩; have hA5 := hA4.trans hS5; have hO35 := hO34.since hS5; have hr5 := hr4.on hS5) | (go_at_call 20; (with_reducible refine (HRR.out A3 c3 _ (ownT_rdv hO35) HF.out).mono ?_); rintro e w6 ⟨rfl, hS6⟩; have hA6 := hA5.trans hS6; have hO36 := hO35.since hS6; have hr6 := hr5.on hS6) | (go_at_call 21; (with_reducible refine (HSM.out A3 c3 _ (ownT_rdv hO36) hA6).mono ?_); rintro e w7 ⟨rfl, hS7⟩; have hA7 := hA6.trans hS7; have hr7 := hr6.on hS7) | (go_at_call 23; (with_reducible refine (HFW.out _ hA7 HF.out hR).mono ?_); rintro e w8 ⟨A8, c8, rfl, hr8, hS8⟩; have hA8 := hA7.trans hS8; have hr9 := hr7.on hS8) | (go_at_call 22; (with_reducible refine (same_l A4 A8 _ _ c4 c8 (file4 TT) (file4 TT) _ rfl rfl hr9 hr8 rfl).mono ?_); rintro e w9 ⟨rfl, hw9⟩; have hw10 := hw9.symm; subst hw10; clear hw9))
      go_ret
      exact ⟨by first | rfl | simp, by first | exact hA8 | exact hA7⟩
    · go_wp2_with fail
      go_ret
      exact ⟨by first | rfl | simp, hA2⟩

end Go.Proofs.Ytpplnapfpoloiaa

/-
  Layer 4: what is written is read back: pieces of a font's bytes.
-/
namespace Go.Proofs.Ytpplnapfpoloiaa
open Go.RowKit Go.ChangeShapes Go.WideShapes Go.Deep
set_option linter.unusedVariables false
set_option linter.unusedSimpArgs false

theorem strOf_tag (s : ByteArray) : strOf (tagB s) = s := by
  unfold strOf tagB
  cases s with
  | mk d =>
    congr 1
    apply Array.ext'
    show List.map _ (List.map _ d.toList) = d.toList
    rw [List.map_map]
    conv => rhs; rw [← List.map_id d.toList]
    apply List.map_congr_left
    intro b _
    show UInt8.ofNat ((b.toNat : Int)).toNat = b
    rw [Int.toNat_natCast, UInt8.ofNat_toNat]
theorem cutL_app_left {A B : List Int} {p m : Nat} (h : p + m ≤ A.length) : cutL (A ++ B) p m = cutL A p m := by
  unfold cutL
  rw [List.drop_append_of_le_length (by omega), List.take_append_of_le_length (by rw [List.length_drop]; omega)]
theorem cutL_app_right (A B : List Int) (p m : Nat) : cutL (A ++ B) (A.length + p) m = cutL B p m := by
  unfold cutL
  rw [List.drop_append, List.drop_eq_nil_of_le (by omega), List.nil_append]
  congr 2
  omega
theorem cutL_all (A : List Int) : cutL A 0 A.length = A := by unfold cutL; rw [List.drop_zero, List.take_length]
theorem numAt_cut (L : List Int) (a : Nat) : ∀ (k : Nat), numAt (fnL L) a k = numAt (fnL (cutL L a k)) 0 k := by
  have key : ∀ (k m : Nat), k ≤ m → numAt (fnL L) a k = numAt (fnL (cutL L a m)) 0 k := by
    intro k
    induction k with
    | zero => intro m h; rfl
    | succ k ih =>
      intro m h
      unfold numAt
      rw [ih m (by omega), Nat.zero_add, cutL_get (by omega)]
  intro k
  exact key k k (Nat.le_refl _)
/-- An entry of the directory: the j-th sixteen bytes. -/
theorem ents4_cut : ∀ (TT : List Tb) (a j : Nat) (T : Tb), (∀ T, T ∈ TT → T.tag.size = 4) → TT[j]? = some T → cutL (ents4 a TT) (16 * j) 16 = ent4 T (end4 a (TT.take j)) := by
  intro TT
  induction TT with
  | nil => intro a j T _ h; simp at h
  | cons U r ih =>
    intro a j T hs h
    have hl : (ent4 U a).length = 16 := by
      unfold ent4
      simp only [List.length_append, tagB_len, putL_len]
      rw [hs U (by simp)]
    cases j with
    | zero =>
      simp only [List.getElem?_cons_zero, Option.some.injEq] at h
      subst h
      unfold ents4
      rw [Nat.mul_zero, cutL_app_left (by omega), ← hl, cutL_all]
      simp [end4]
    | succ j =>
      rw [List.getElem?_cons_succ] at h
      unfold ents4
      rw [show 16 * (j + 1) = (ent4 U a).length + 16 * j by omega, cutL_app_right, ih _ j T (fun V hV => hs V (by simp [hV])) h]
      congr 1
      unfold end4
      rw [List.take_succ_cons, List.map_cons, List.sum_cons, Nat.add_assoc]
/-- A table's data, where it lies. -/
theorem body4_cut : ∀ (TT : List Tb) (a j : Nat) (T : Tb), TT[j]? = some T → cutL (body4 TT) (end4 a (TT.take j) - a) T.data.length = blank4 T := by
  intro TT
  induction TT with
  | nil => intro a j T h; simp at h
  | cons U r ih =>
    intro a j T h
    have hl : (padL (blank4 U)).length = pad4 U.data.length := by rw [padL_len, blank4_len]
    have hb : body4 (U :: r) = padL (blank4 U) ++ body4 r := by unfold body4; rw [List.flatMap_cons]
    rw [hb]
    cases j with
    | zero =>
      simp only [List.getElem?_cons_zero, Option.some.injEq] at h
      subst h
      have hp := pad4_le U.data.length
      rw [List.take_zero, show end4 a [] - a = 0 by simp [end4], cutL_app_left (by rw [hl]; omega)]
      unfold padL
      rw [cutL_app_left (by rw [blank4_len]; omega), ← blank4_len U, cutL_all]
    | succ j =>
      rw [List.getElem?_cons_succ] at h
      have e : end4 a ((U :: r).take (j + 1)) - a = (padL (blank4 U)).length + (end4 a (r.take j) - a) := by
        rw [hl]; unfold end4; rw [List.take_succ_cons, List.map_cons, List.sum_cons]; omega
      rw [e, cutL_app_right]
      exact ih a j T h
end Go.Proofs.Ytpplnapfpoloiaa

/-
  Layer 4: what is written is read back: an entry's numbers.
-/
namespace Go.Proofs.Ytpplnapfpoloiaa
open Go.RowKit Go.ChangeShapes Go.WideShapes Go.Deep
set_option linter.unusedVariables false
set_option linter.unusedSimpArgs false

theorem num4_put (x : Int) : numAt (fnL (putL x 4)) 0 4 = x % 4294967296 := by
  have e : ∀ j, j < 4 → fnL (putL x 4) j = byteOf x 4 j := fun j hj => by
    unfold fnL putL
    rw [List.getD_eq_getElem?_getD, List.getElem?_map, List.getElem?_range hj]
    rfl
  simp only [numAt, Nat.zero_add, e 0 (by omega), e 1 (by omega), e 2 (by omega), e 3 (by omega), byteOf, Nat.reduceSub, Nat.reduceMul, Int.reducePow]
  omega
theorem num2_put (x : Int) : numAt (fnL (putL x 2)) 0 2 = x % 65536 := by
  have e : ∀ j, j < 2 → fnL (putL x 2) j = byteOf x 2 j := fun j hj => by
    unfold fnL putL
    rw [List.getD_eq_getElem?_getD, List.getElem?_map, List.getElem?_range hj]
    rfl
  simp only [numAt, Nat.zero_add, e 0 (by omega), e 1 (by omega), byteOf, Nat.reduceSub, Nat.reduceMul, Int.reducePow]
  omega
theorem cutL_cut (L : List Int) (p m q k : Nat) (h : q + k ≤ m) : cutL (cutL L p m) q k = cutL L (p + q) k := by
  unfold cutL
  rw [List.drop_take, List.drop_drop, List.take_take, Nat.min_eq_left (by omega)]
theorem cutL_lay_ahead (R M : List Int) (p a m : Nat) (h : a + m ≤ p) (hp : p ≤ R.length) : cutL (layL R p M) a m = cutL R a m := by
  unfold layL
  rw [cutL_app_left (by rw [List.length_take]; omega)]
  unfold cutL
  rw [List.drop_take, List.take_take, Nat.min_eq_left (by omega)]
theorem cutL_lay_behind (R M : List Int) (p a m : Nat) (h : p + M.length ≤ a) (hp : p + M.length ≤ R.length) : cutL (layL R p M) a m = cutL R a m := by
  unfold layL
  obtain ⟨d, rfl⟩ : ∃ d, a = p + (M.length + d) := ⟨a - p - M.length, by omega⟩
  have e : p + (M.length + d) = (R.take p).length + (M.length + d) := by rw [List.length_take]; omega
  rw [show cutL (R.take p ++ (M ++ R.drop (p + M.length))) (p + (M.length + d)) m = cutL (R.take p ++ (M ++ R.drop (p + M.length))) ((R.take p).length + (M.length + d)) m by rw [← e], cutL_app_right, cutL_app_right]
  unfold cutL
  rw [List.drop_drop, Nat.add_assoc]
/-- The four parts of an entry. -/
theorem ent4_parts (T : Tb) (a : Nat) (hs : T.tag.size = 4) : cutL (ent4 T a) 0 4 = tagB T.tag ∧ cutL (ent4 T a) 4 4 = putL (sumI (blank4 T)) 4 ∧ cutL (ent4 T a) 8 4 = putL a 4 ∧ cutL (ent4 T a) 12 4 = putL T.data.length 4 := by
  have hl : (tagB T.tag).length = 4 := by rw [tagB_len, hs]
  have h1 := putL_len (sumI (blank4 T)) 4
  have h2 := putL_len (a : Int) 4
  have h3 := putL_len (T.data.length : Int) 4
  unfold ent4
  generalize tagB T.tag = A at *
  generalize putL (sumI (blank4 T)) 4 = B at *
  generalize putL (a : Int) 4 = C at *
  generalize putL (T.data.length : Int) 4 = D at *
  refine ⟨?_, ?_, ?_, ?_⟩
  · rw [cutL_app_left (by omega), ← hl, cutL_all]
  · rw [show 4 = A.length + 0 by omega, cutL_app_right, cutL_app_left (by omega), show A.length + 0 = B.length by omega, cutL_all]
  · rw [show 8 = A.length + (B.length + 0) by omega, cutL_app_right, cutL_app_right, cutL_app_left (by omega), ← h2, cutL_all]
  · rw [show 12 = A.length + (B.length + (C.length + 0)) by omega, cutL_app_right, cutL_app_right, cutL_app_right, ← h3, cutL_all]
end Go.Proofs.Ytpplnapfpoloiaa

/-
  Layer 4: what is written is read back: where the adjustment lies; an entry of a font's bytes.
-/
namespace Go.Proofs.Ytpplnapfpoloiaa
open Go.RowKit Go.ChangeShapes Go.WideShapes Go.Deep
set_option linter.unusedVariables false
set_option linter.unusedSimpArgs false

theorem adj4_at : ∀ (TT : List Tb) (x : Int) (a : Nat), adj4 x a TT = x ∨ ∃ (k : Nat) (T : Tb), TT[k]? = some T ∧ adjT T = true ∧ adj4 x a TT = (end4 a (TT.take k) : Int) + 8 := by
  intro TT
  induction TT with
  | nil => intro x a; exact .inl rfl
  | cons U r ih =>
    intro x a
    unfold adj4
    have e : ∀ k, end4 a ((U :: r).take (k + 1)) = end4 (a + pad4 U.data.length) (r.take k) := fun k => by
      unfold end4; rw [List.take_succ_cons, List.map_cons, List.sum_cons, Nat.add_assoc]
    by_cases hU : adjT U = true
    · rw [if_pos hU]
      rcases ih ((a : Int) + 8) (a + pad4 U.data.length) with h | ⟨k, T, h1, h2, h3⟩
      · right
        exact ⟨0, U, rfl, hU, by rw [h]; simp [end4]⟩
      · right
        exact ⟨k + 1, T, by rw [List.getElem?_cons_succ]; exact h1, h2, by rw [h3, e]⟩
    · rw [if_neg hU]
      rcases ih x (a + pad4 U.data.length) with h | ⟨k, T, h1, h2, h3⟩
      · exact .inl h
      · right
        exact ⟨k + 1, T, by rw [List.getElem?_cons_succ]; exact h1, h2, by rw [h3, e]⟩
theorem end4_ge (a : Nat) (TT : List Tb) : a ≤ end4 a TT := by unfold end4; omega
theorem end4_step {TT : List Tb} {j : Nat} {T : Tb} (a : Nat) (h : TT[j]? = some T) : end4 a (TT.take (j + 1)) = end4 a (TT.take j) + pad4 T.data.length := by
  have hj : j < TT.length := by
    rcases Nat.lt_or_ge j TT.length with h2 | h2
    · exact h2
    · rw [List.getElem?_eq_none h2] at h; cases h
  have e : TT[j] = T := by rw [List.getElem?_eq_getElem hj] at h; injection h
  rw [List.take_succ_eq_append_getElem hj, e, end4_snoc]
theorem end4_mono (a : Nat) (TT : List Tb) (j k : Nat) (h : j ≤ k) : end4 a (TT.take j) ≤ end4 a (TT.take k) := by
  have h1 := end4_take_le (TT.take k) a j
  rw [List.take_take, Nat.min_eq_left h] at h1
  exact h1
/-- A font's bytes: those ahead of the adjustment, but for it. -/
theorem file4_cut {TT : List Tb} (h : right4 TT) (p m : Nat) (hp : adj4 (-1) (12 + 16 * TT.length) TT < 0 ∨ ((p + m : Nat) : Int) ≤ adj4 (-1) (12 + 16 * TT.length) TT ∨ adj4 (-1) (12 + 16 * TT.length) TT + 4 ≤ (p : Int)) : cutL (file4 TT) p m = cutL (raw4 TT) p m := by
  have hs : ∀ T, T ∈ TT → T.tag.size = 4 := fun T hT => by
    obtain ⟨j, hj⟩ := List.mem_iff_getElem?.1 hT
    exact (h.2.2.2.1 j T hj).1
  have hl := raw4_len hs
  unfold size4 at hl
  have ha := adj4_ok TT (-1) (12 + 16 * TT.length)
  unfold file4
  by_cases hn : adj4 (-1) (12 + 16 * TT.length) TT < 0
  · rw [if_pos hn]
  · rw [if_neg hn]
    have hM := putL_len ((2981146554 - sumI (raw4 TT)) % 4294967296) 4
    generalize adj4 (-1) (12 + 16 * TT.length) TT = x at *
    obtain ⟨q, rfl⟩ : ∃ q : Nat, x = q := ⟨x.toNat, by omega⟩
    rw [Int.toNat_natCast]
    rcases hp with h1 | h1 | h1
    · omega
    · exact cutL_lay_ahead _ _ _ _ _ (by omega) (by omega)
    · exact cutL_lay_behind _ _ _ _ _ (by omega) (by omega)
/-- The j-th entry. -/
theorem file4_entry {TT : List Tb} (h : right4 TT) {j : Nat} {T : Tb} (hj : TT[j]? = some T) : cutL (file4 TT) (12 + 16 * j) 16 = ent4 T (end4 (12 + 16 * TT.length) (TT.take j)) := by
  have hs : ∀ T, T ∈ TT → T.tag.size = 4 := fun T hT => by
    obtain ⟨j, hj⟩ := List.mem_iff_getElem?.1 hT
    exact (h.2.2.2.1 j T hj).1
  have hjl : j < TT.length := by
    rcases Nat.lt_or_ge j TT.length with h2 | h2
    · exact h2
    · rw [List.getElem?_eq_none h2] at hj; cases hj
  have ha := adj4_ok TT (-1) (12 + 16 * TT.length)
  rw [file4_cut h (12 + 16 * j) 16 (by omega)]
  unfold raw4
  have hd := dir4_len TT.length
  have he := ents4_len TT (12 + 16 * TT.length) hs
  rw [cutL_app_left (by rw [List.length_append]; omega), show 12 + 16 * j = (dir4 TT.length).length + 16 * j by rw [hd], cutL_app_right]
  exact ents4_cut TT _ j T hs hj
end Go.Proofs.Ytpplnapfpoloiaa

/-
  Layer 4: what is written is read back: a table's data.
-/
namespace Go.Proofs.Ytpplnapfpoloiaa
open Go.RowKit Go.ChangeShapes Go.WideShapes Go.Deep
set_option linter.unusedVariables false
set_option linter.unusedSimpArgs false

theorem adjT_len {s : ByteArray} {L M : List Int} (h : L.length = M.length) : adjT ⟨s, L⟩ = adjT ⟨s, M⟩ := by
  unfold adjT; simp only; rw [h]
theorem adjT_12 {T : Tb} (h : adjT T = true) : 12 ≤ T.data.length := by
  unfold adjT at h
  rw [Bool.and_eq_true] at h
  exact of_decide_eq_true h.2
theorem blank_by {s : ByteArray} {L M : List Int} (hl : L.length = M.length) (h1 : L.take 8 = M.take 8) (h2 : L.drop 12 = M.drop 12) (h : adjT ⟨s, L⟩ = true) : blank4 ⟨s, L⟩ = blank4 ⟨s, M⟩ := by
  unfold blank4
  rw [← adjT_len hl, if_pos h, if_pos h]
  simp only
  rw [h1, h2]
theorem blank_idem (T : Tb) : blank4 ⟨T.tag, blank4 T⟩ = blank4 T := by
  have hl : (blank4 T).length = T.data.length := blank4_len T
  have ha : adjT ⟨T.tag, blank4 T⟩ = adjT T := adjT_len (s := T.tag) hl
  by_cases h : adjT T = true
  · have h12 := adjT_12 h
    have hb : blank4 T = T.data.take 8 ++ ([0, 0, 0, 0] ++ T.data.drop 12) := by unfold blank4; rw [if_pos h]
    have h8 : (T.data.take 8).length = 8 := by rw [List.length_take]; omega
    have e := blank_by (s := T.tag) (L := blank4 T) (M := T.data) hl (by rw [hb, List.take_append_of_le_length (by omega), List.take_take]; rfl) (by
      rw [hb, List.drop_append, List.drop_eq_nil_of_le (by omega), h8, List.nil_append]; rfl) (ha.trans h)
    exact e
  · have hb : blank4 ⟨T.tag, blank4 T⟩ = blank4 T := by
      rw [show blank4 ⟨T.tag, blank4 T⟩ = if adjT ⟨T.tag, blank4 T⟩ then (blank4 T).take 8 ++ ([0, 0, 0, 0] ++ (blank4 T).drop 12) else blank4 T from rfl, ha, if_neg h]
    exact hb
theorem raw4_data {TT : List Tb} (h : right4 TT) {j : Nat} {T : Tb} (hj : TT[j]? = some T) : cutL (raw4 TT) (end4 (12 + 16 * TT.length) (TT.take j)) T.data.length = blank4 T := by
  have hs : ∀ T, T ∈ TT → T.tag.size = 4 := fun T hT => by
    obtain ⟨j, hj⟩ := List.mem_iff_getElem?.1 hT
    exact (h.2.2.2.1 j T hj).1
  have hd : (dir4 TT.length ++ ents4 (12 + 16 * TT.length) TT).length = 12 + 16 * TT.length := by rw [List.length_append, dir4_len, ents4_len _ _ hs]
  have hg := end4_ge (12 + 16 * TT.length) (TT.take j)
  have hb := body4_cut TT (12 + 16 * TT.length) j T hj
  unfold raw4
  rw [show end4 (12 + 16 * TT.length) (TT.take j) = (dir4 TT.length ++ ents4 (12 + 16 * TT.length) TT).length + (end4 (12 + 16 * TT.length) (TT.take j) - (12 + 16 * TT.length)) by rw [hd]; omega, cutL_app_right]
  exact hb
theorem cutL_take (L : List Int) (p m k : Nat) (h : k ≤ m) : (cutL L p m).take k = cutL L p k := by
  unfold cutL; rw [List.take_take, Nat.min_eq_left h]
theorem cutL_drop (L : List Int) (p m k : Nat) (h : k ≤ m) : (cutL L p m).drop k = cutL L (p + k) (m - k) := by
  unfold cutL; rw [List.drop_take, List.drop_drop]
/-- A table's data as they lie in a font's bytes, the adjustment struck. -/
theorem file4_data {TT : List Tb} (h : right4 TT) {j : Nat} {T : Tb} (hj : TT[j]? = some T) : blank4 ⟨T.tag, cutL (file4 TT) (end4 (12 + 16 * TT.length) (TT.take j)) T.data.length⟩ = blank4 T := by
  have hr := raw4_data h hj
  have hst := end4_step (12 + 16 * TT.length) hj
  have hp := pad4_le T.data.length
  rcases adj4_at TT (-1) (12 + 16 * TT.length) with ha | ⟨k, U, hk, hU, ha⟩
  · rw [file4_cut h _ _ (.inl (by omega)), hr]
    exact blank_idem T
  · have hst2 := end4_step (12 + 16 * TT.length) hk
    have hp2 := pad4_le U.data.length
    have h12 := adjT_12 hU
    rcases Nat.lt_trichotomy k j with hlt | rfl | hlt
    · have hm := end4_mono (12 + 16 * TT.length) TT (k + 1) j hlt
      rw [file4_cut h _ _ (.inr (.inr (by omega))), hr]
      exact blank_idem T
    · rw [hj] at hk
      injection hk with hk
      subst hk
      have hrl : (cutL (raw4 TT) (end4 (12 + 16 * TT.length) (TT.take k)) T.data.length).length = T.data.length := by rw [hr, blank4_len]
      have hsz : (file4 TT).length = (raw4 TT).length := by
        have hs : ∀ T, T ∈ TT → T.tag.size = 4 := fun T hT => by
          obtain ⟨j, hj⟩ := List.mem_iff_getElem?.1 hT
          exact (h.2.2.2.1 j T hj).1
        have hl := raw4_len hs
        unfold size4 at hl
        have ha2 := adj4_ok TT (-1) (12 + 16 * TT.length)
        unfold file4
        split
        · rfl
        · exact layL_len _ _ _ (by rw [putL_len]; omega)
      have hfl : (cutL (file4 TT) (end4 (12 + 16 * TT.length) (TT.take k)) T.data.length).length = T.data.length := by
        unfold cutL at hrl ⊢
        rw [List.length_take, List.length_drop] at hrl ⊢
        omega
      rw [blank_by (M := cutL (raw4 TT) (end4 (12 + 16 * TT.length) (TT.take k)) T.data.length) (by rw [hfl, hrl])
        (by rw [cutL_take _ _ _ _ (by omega), cutL_take _ _ _ _ (by omega)]; exact file4_cut h _ _ (.inr (.inl (by omega))))
        (by rw [cutL_drop _ _ _ _ (by omega), cutL_drop _ _ _ _ (by omega)]; exact file4_cut h _ _ (.inr (.inr (by omega))))
        ((adjT_len (s := T.tag) hfl).trans hU), hr]
      exact blank_idem T
    · have hm := end4_mono (12 + 16 * TT.length) TT (j + 1) k hlt
      rw [file4_cut h _ _ (.inr (.inl (by omega))), hr]
      exact blank_idem T
end Go.Proofs.Ytpplnapfpoloiaa

/-
  Layer 4: what is written is read back.
-/
namespace Go.Proofs.Ytpplnapfpoloiaa
open Go.RowKit Go.ChangeShapes Go.WideShapes Go.Deep
set_option linter.unusedVariables false
set_option linter.unusedSimpArgs false

theorem file4_len {TT : List Tb} (h : right4 TT) : (file4 TT).length = size4 TT := by
  have hs : ∀ T, T ∈ TT → T.tag.size = 4 := fun T hT => by
    obtain ⟨j, hj⟩ := List.mem_iff_getElem?.1 hT
    exact (h.2.2.2.1 j T hj).1
  have hl := raw4_len hs
  have ha2 := adj4_ok TT (-1) (12 + 16 * TT.length)
  rw [← hl]
  unfold size4 at hl
  unfold file4
  split
  · rfl
  · exact layL_len _ _ _ (by rw [putL_len]; omega)
/-- A table with its adjustment struck. -/
def blankT (T : Tb) : Tb := ⟨T.tag, blank4 T⟩
theorem rd1_file {TT : List Tb} (h : right4 TT) {j : Nat} {T : Tb} (hj : TT[j]? = some T) {last : ByteArray} (hlast : Op.bytesLess last.toList T.tag.toList = true) : rd1 (file4 TT) (12 + 16 * j) last = (0, blankT T) := by
  have hen := file4_entry h hj
  have hT := h.2.2.2.1 j T hj
  obtain ⟨p0, p1, p2, p3⟩ := ent4_parts T (end4 (12 + 16 * TT.length) (TT.take j)) hT.1
  rw [← hen] at p0 p1 p2 p3
  rw [cutL_cut _ _ _ _ _ (by omega)] at p0 p1 p2 p3
  rw [Nat.add_zero] at p0
  have hst := end4_step (12 + 16 * TT.length) hj
  have hp := pad4_le T.data.length
  have hm := end4_take_le TT (12 + 16 * TT.length) (j + 1)
  have hsz := file4_len h
  have hs3 := h.2.2.1
  have hsum := sumI_range (blank4 T)
  have n1 : numAt (fnL (file4 TT)) (12 + 16 * j + 4) 4 = sumI (blank4 T) := by rw [numAt_cut, p1, num4_put]; omega
  have hdat := file4_data h hj
  unfold size4 at hsz hs3
  have n2 : numAt (fnL (file4 TT)) (12 + 16 * j + 8) 4 = (end4 (12 + 16 * TT.length) (TT.take j) : Int) := by rw [numAt_cut, p2, num4_put]; omega
  have n3 : numAt (fnL (file4 TT)) (12 + 16 * j + 12) 4 = (T.data.length : Int) := by rw [numAt_cut, p3, num4_put]; omega
  unfold rd1
  rw [p0, strOf_tag, n1, n2, n3]
  rw [if_neg (by rw [hlast, show TagG T.tag = true from decide_eq_true hT]; simp)]
  simp only [Int.toNat_natCast]
  by_cases h0 : T.data.length = 0
  · have hd0 : T.data = [] := List.eq_nil_of_length_eq_zero h0
    have hb0 : blank4 ⟨T.tag, cutL (file4 TT) 0 0⟩ = blank4 T := by
      have : T = ⟨T.tag, []⟩ := by rw [← hd0]
      rw [this]
      rfl
    rw [h0, if_pos rfl, if_neg (by omega), hb0, if_pos rfl]
    rfl
  · rw [if_neg h0, if_neg (by omega), hdat, if_pos rfl]
    rfl
theorem rd4_file_go {TT : List Tb} (h : right4 TT) : ∀ (k j : Nat) (last : ByteArray), j + k = TT.length → (∀ T, TT[j]? = some T → Op.bytesLess last.toList T.tag.toList = true) → rd4Go (file4 TT) k j last = (0, (TT.drop j).map blankT) := by
  intro k
  induction k with
  | zero =>
    intro j last hjk _
    rw [List.drop_eq_nil_of_le (by omega)]
    rfl
  | succ k ih =>
    intro j last hjk hl
    have hjl : j < TT.length := by omega
    have hj : TT[j]? = some TT[j] := List.getElem?_eq_getElem hjl
    have h1 := rd1_file h hj (hl _ hj)
    have h2 := ih (j + 1) TT[j].tag (by omega) (fun U hU => h.2.2.2.2 j _ U hj hU)
    have h3 : contR (rd4Go (file4 TT) (k + 1) j last) [] = contR (rd4Go (file4 TT) k (j + 1) (rd1 (file4 TT) (12 + 16 * j) last).2.tag) ([] ++ [(rd1 (file4 TT) (12 + 16 * j) last).2]) := rd4_next (by rw [h1])
    rw [h1] at h3
    have h4 : (blankT TT[j]).tag = TT[j].tag := rfl
    simp only [h4, h2] at h3
    rw [rd4_start, h3, List.drop_eq_getElem_cons hjl]
    unfold contR
    rw [if_pos rfl]
    rfl
/-- What is written is read as it was, but for the adjustment. -/
theorem rd4_file {TT : List Tb} (h : right4 TT) : rd4 (file4 TT) = (0, TT.map blankT) := by
  have hsz := file4_len h
  have hs3 := h.2.2.1
  have hN1 := h.1
  have hN2 := h.2.1
  have hg : 12 + 16 * TT.length ≤ size4 TT := end4_ge _ _
  have ha := adj4_ok TT (-1) (12 + 16 * TT.length)
  have hd : cutL (file4 TT) 0 12 = dir4 TT.length := by
    rw [file4_cut h 0 12 (by omega)]
    unfold raw4
    rw [cutL_app_left (by rw [List.length_append, dir4_len]; omega), cutL_app_left (by rw [dir4_len]; omega), ← dir4_len TT.length, cutL_all]
  have h4 := putL_len 65536 4
  have h2 := putL_len (TT.length : Int) 2
  have q1 : cutL (file4 TT) 0 4 = putL 65536 4 := by
    have := cutL_cut (file4 TT) 0 12 0 4 (by omega)
    rw [← this, hd]
    unfold dir4
    generalize putL 65536 4 = A at *
    rw [cutL_app_left (by omega), ← h4, cutL_all]
  have q2 : cutL (file4 TT) 4 2 = putL (TT.length : Int) 2 := by
    have := cutL_cut (file4 TT) 0 12 4 2 (by omega)
    rw [Nat.zero_add] at this
    rw [← this, hd]
    unfold dir4
    generalize putL 65536 4 = A at *
    generalize putL (TT.length : Int) 2 = B at *
    rw [show 4 = A.length + 0 by omega, cutL_app_right, cutL_app_left (by omega), ← h2, cutL_all]
  have n1 : numAt (fnL (file4 TT)) 0 4 = 65536 := by rw [numAt_cut, q1, num4_put]; rfl
  have n2 : numAt (fnL (file4 TT)) 4 2 = (TT.length : Int) := by rw [numAt_cut, q2, num2_put]; omega
  unfold rd4
  rw [if_neg (by omega), if_neg (by omega), n1, n2, if_neg (by omega), Int.toNat_natCast, if_neg (by omega), rd4_file_go h TT.length 0 ByteArray.empty (by omega) (fun T hT => ?_)]
  · rfl
  · have hT := (h.2.2.2.1 0 T hT).1
    cases hb : T.tag.toList with
    | nil =>
      exfalso
      have hx : T.tag.data.toList = T.tag.toList := (ByteArray.toList_eq _).symm
      have : T.tag.data.toList.length = 4 := by rw [Array.length_toList]; exact hT
      rw [hx, hb] at this
      cases this
    | cons a l => rw [ByteArray.toList_eq]; rfl
end Go.Proofs.Ytpplnapfpoloiaa

/-
  Layer 4: tables with their adjustment struck are written as the same bytes.
-/
namespace Go.Proofs.Ytpplnapfpoloiaa
open Go.RowKit Go.ChangeShapes Go.WideShapes Go.Deep
set_option linter.unusedVariables false
set_option linter.unusedSimpArgs false

theorem blankT_len (T : Tb) : (blankT T).data.length = T.data.length := blank4_len T
theorem blankT_adj (T : Tb) : adjT (blankT T) = adjT T := adjT_len (s := T.tag) (blank4_len T)
theorem blankT_blank (T : Tb) : blank4 (blankT T) = blank4 T := blank_idem T
theorem blankT_ent (T : Tb) (a : Nat) : ent4 (blankT T) a = ent4 T a := by
  unfold ent4; rw [blankT_blank, blankT_len]; rfl
theorem map_ents : ∀ (TT : List Tb) (a : Nat), ents4 a (TT.map blankT) = ents4 a TT := by
  intro TT
  induction TT with
  | nil => intro a; rfl
  | cons T r ih => intro a; rw [List.map_cons]; unfold ents4; rw [blankT_ent, blankT_len, ih]
theorem map_body (TT : List Tb) : body4 (TT.map blankT) = body4 TT := by
  unfold body4
  induction TT with
  | nil => rfl
  | cons T r ih => rw [List.map_cons, List.flatMap_cons, List.flatMap_cons, blankT_blank, ih]
theorem map_adj : ∀ (TT : List Tb) (x : Int) (a : Nat), adj4 x a (TT.map blankT) = adj4 x a TT := by
  intro TT
  induction TT with
  | nil => intro x a; rfl
  | cons T r ih => intro x a; rw [List.map_cons]; unfold adj4; rw [blankT_adj, blankT_len, ih]
theorem map_end (TT : List Tb) (a : Nat) : end4 a (TT.map blankT) = end4 a TT := by
  unfold end4
  rw [List.map_map]
  congr 2
  apply List.map_congr_left
  intro T _
  show pad4 (blankT T).data.length = pad4 T.data.length
  rw [blankT_len]
theorem map_file (TT : List Tb) : file4 (TT.map blankT) = file4 TT := by
  have hr : raw4 (TT.map blankT) = raw4 TT := by unfold raw4; rw [List.length_map, map_ents, map_body]
  unfold file4
  rw [hr, List.length_map, map_adj]
theorem map_right {TT : List Tb} (h : right4 TT) : right4 (TT.map blankT) := by
  obtain ⟨h1, h2, h3, h4, h5⟩ := h
  refine ⟨by rw [List.length_map]; exact h1, by rw [List.length_map]; exact h2, by unfold size4 at h3 ⊢; rw [map_end, List.length_map]; exact h3, fun j T hT => ?_, fun j T U hT hU => ?_⟩
  · rw [List.getElem?_map] at hT
    obtain ⟨T0, h6, rfl⟩ := Option.map_eq_some_iff.1 hT
    exact h4 j T0 h6
  · rw [List.getElem?_map] at hT hU
    obtain ⟨T0, h6, rfl⟩ := Option.map_eq_some_iff.1 hT
    obtain ⟨U0, h7, rfl⟩ := Option.map_eq_some_iff.1 hU
    exact h5 j T0 U0 h6 h7
theorem map_few {TT : List Tb} (h : FewT TT) : FewT (TT.map blankT) := by
  refine ⟨by rw [List.length_map]; exact h.1, fun T hT => ?_⟩
  obtain ⟨T0, h6, rfl⟩ := List.mem_map.1 hT
  exact ⟨by rw [blankT_len]; exact (h.2 T0 h6).1, (h.2 T0 h6).2⟩
theorem map_bytes {TT : List Tb} (h : ∀ T, T ∈ TT → Bytes T.data) : ∀ T, T ∈ TT.map blankT → Bytes T.data := fun T hT => by
  obtain ⟨T0, h6, rfl⟩ := List.mem_map.1 hT
  exact bytes_blank (h T0 h6)
end Go.Proofs.Ytpplnapfpoloiaa
