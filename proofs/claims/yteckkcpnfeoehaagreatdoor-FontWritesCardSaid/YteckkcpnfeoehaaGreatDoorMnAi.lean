/-
  Texts of this seat, put together: each with its own head.
-/
import Derived.Test.YteckkcpnfeoehaaGreatDoorMnAg
import Derived.Test.YteckkcpnfeoehaaGreatDoorMnAh
import Derived.Test.YteckkcpnfeoehaaGreatDoorMnAe
import Derived.Lib.SliceRun

/-
  Layer 4: a font's bytes as lists of numbers; which tables are right. No walk.
-/
namespace Go.Proofs.YteckkcpnfeoehaaGreatDoor
set_option maxRecDepth 100000
open Go.RowKit Go.ChangeShapes Go.WideShapes Go.Deep
set_option linter.unusedVariables false
set_option linter.unusedSimpArgs false

/-- A tag's bytes as numbers. -/
def tagB (s : ByteArray) : List Int := s.data.toList.map (fun b => (b.toNat : Int))
/-- May a tag be? -/
def TagC (s : ByteArray) : Prop := s.size = 4 ∧ ∀ (j : Nat) (h : j < s.size), 32 ≤ (s[j].toNat : Int) ∧ (s[j].toNat : Int) ≤ 126
/-- Has a table the adjustment? -/
def adjT (T : Tb) : Bool := (T.tag.toList == [104, 101, 97, 100]) && decide (12 ≤ T.data.length)
/-- A table's data, with noughts as the adjustment. -/
def blank4 (T : Tb) : List Int := if adjT T then T.data.take 8 ++ ([0, 0, 0, 0] ++ T.data.drop 12) else T.data
theorem blank4_len (T : Tb) : (blank4 T).length = T.data.length := by
  unfold blank4
  split
  · rename_i h
    have : 12 ≤ T.data.length := by
      unfold adjT at h
      rw [Bool.and_eq_true] at h
      exact of_decide_eq_true h.2
    simp only [List.length_append, List.length_take, List.length_cons, List.length_nil, List.length_drop]; omega
  · rfl
theorem bytes_blank {T : Tb} (h : Bytes T.data) : Bytes (blank4 T) := by
  unfold blank4
  split
  · refine bytes_app (fun v hv => h v (List.mem_of_mem_take hv)) (bytes_app (fun v hv => ?_) (fun v hv => h v (List.mem_of_mem_drop hv)))
    simp only [List.mem_cons, List.not_mem_nil, or_false] at hv
    omega
  · exact h
/-- The sum of words. -/
def sumI (L : List Int) : Int := accu 0 (fnL L) L.length
def pad4 (n : Nat) : Nat := (n + 3) / 4 * 4
theorem pad4_le (n : Nat) : n ≤ pad4 n ∧ pad4 n ≤ n + 3 ∧ pad4 n % 4 = 0 := by unfold pad4; omega
def padL (L : List Int) : List Int := L ++ List.replicate (pad4 L.length - L.length) 0
theorem padL_len (L : List Int) : (padL L).length = pad4 L.length := by
  have := pad4_le L.length
  unfold padL; rw [List.length_append, List.length_replicate]; omega
theorem bytes_pad {L : List Int} (h : Bytes L) : Bytes (padL L) := bytes_app h (fun v hv => by rw [List.eq_of_mem_replicate hv]; omega)
/-- The directory's entry of a table, whose data starts at a place. -/
def ent4 (T : Tb) (a : Nat) : List Int := tagB T.tag ++ (putL (sumI (blank4 T)) 4 ++ (putL a 4 ++ putL T.data.length 4))
def ents4 : Nat → List Tb → List Int
  | _, [] => []
  | a, T :: r => ent4 T a ++ ents4 (a + pad4 T.data.length) r
def body4 (TT : List Tb) : List Int := TT.flatMap (fun T => padL (blank4 T))
/-- Where the next table's data starts. -/
def end4 (a : Nat) (TT : List Tb) : Nat := a + (TT.map (fun T => pad4 T.data.length)).sum
/-- Where the adjustment lies; -1: nowhere. -/
def adj4 : Int → Nat → List Tb → Int
  | x, _, [] => x
  | x, a, T :: r => adj4 (if adjT T then (a : Int) + 8 else x) (a + pad4 T.data.length) r
/-- The greatest power of two that is no more than n, its exponent. -/
def up4 (n : Nat) : Nat := Nat.log2 n
def dir4 (n : Nat) : List Int := putL 65536 4 ++ (putL n 2 ++ (putL ((16 * 2 ^ up4 n : Nat) : Int) 2 ++ (putL (up4 n) 2 ++ putL (((16 * n : Nat) : Int) - ((16 * 2 ^ up4 n : Nat) : Int)) 2)))
/-- The bytes ahead of the adjustment. -/
def raw4 (TT : List Tb) : List Int := dir4 TT.length ++ ents4 (12 + 16 * TT.length) TT ++ body4 TT
def layL (L : List Int) (p : Nat) (M : List Int) : List Int := L.take p ++ (M ++ L.drop (p + M.length))
/-- A font's bytes. -/
def file4 (TT : List Tb) : List Int :=
  if adj4 (-1) (12 + 16 * TT.length) TT < 0 then raw4 TT else layL (raw4 TT) (adj4 (-1) (12 + 16 * TT.length) TT).toNat (putL ((2981146554 - sumI (raw4 TT)) % 4294967296) 4)
theorem ents4_snoc : ∀ (TT : List Tb) (a : Nat) (T : Tb), ents4 a (TT ++ [T]) = ents4 a TT ++ ent4 T (end4 a TT) := by
  intro TT
  induction TT with
  | nil => intro a T; simp [ents4, end4]
  | cons U r ih =>
    intro a T
    rw [List.cons_append, ents4, ih, ents4, List.append_assoc]
    unfold end4
    rw [List.map_cons, List.sum_cons, Nat.add_assoc]
theorem end4_snoc (TT : List Tb) (a : Nat) (T : Tb) : end4 a (TT ++ [T]) = end4 a TT + pad4 T.data.length := by
  unfold end4; rw [List.map_append, List.sum_append_nat]; simp; omega
theorem adj4_snoc : ∀ (TT : List Tb) (x : Int) (a : Nat) (T : Tb), adj4 x a (TT ++ [T]) = if adjT T then (end4 a TT : Int) + 8 else adj4 x a TT := by
  intro TT
  induction TT with
  | nil => intro x a T; simp [adj4, end4]
  | cons U r ih =>
    intro x a T
    rw [List.cons_append, adj4, ih, adj4]
    have e : end4 (a + pad4 U.data.length) r = end4 a (U :: r) := by unfold end4; rw [List.map_cons, List.sum_cons, Nat.add_assoc]
    rw [e]
theorem body4_snoc (TT : List Tb) (T : Tb) : body4 (TT ++ [T]) = body4 TT ++ padL (blank4 T) := by unfold body4; rw [List.flatMap_append]; simp
theorem tagB_len (s : ByteArray) : (tagB s).length = s.size := by unfold tagB; rw [List.length_map]; cases s; rfl
theorem less_tri : ∀ x y : List UInt8, (!Op.bytesLess x y) = (Op.bytesLess y x || (y == x)) := by
  intro x
  induction x with
  | nil => intro y; cases y with
    | nil => rfl
    | cons b y => simp [Op.bytesLess]
  | cons a x ih => intro y; cases y with
    | nil => simp [Op.bytesLess]
    | cons b y =>
      have h := ih y
      have e : ((b :: y) == (a :: x)) = ((b == a) && (y == x)) := rfl
      rw [e]
      unfold Op.bytesLess
      by_cases h1 : a = b
      · subst h1
        have : ¬ a < a := UInt8.lt_irrefl a
        simp [this, h]
      · have h2 : (a == b) = false := by simpa using h1
        have h3 : (b == a) = false := by simpa using fun e => h1 e.symm
        rw [h2, h3]
        by_cases h4 : a < b
        · have h5 : ¬ b < a := fun h => by rw [UInt8.lt_iff_toNat_lt] at h h4; omega
          simp [h4, h5]
        · have h5 : b < a := by
            rw [UInt8.lt_iff_toNat_lt] at h4 ⊢
            have : a.toNat ≠ b.toNat := fun e => h1 (UInt8.toNat_inj.1 e)
            omega
          simp [h4, h5]
/-- A file's bytes, if these are its tables. -/
def size4 (TT : List Tb) : Nat := end4 (12 + 16 * TT.length) TT
/-- May tables be a font's? -/
def right4 (TT : List Tb) : Prop := 1 ≤ TT.length ∧ TT.length ≤ 64 ∧ size4 TT ≤ 1048576 ∧ (∀ (j : Nat) T, TT[j]? = some T → TagC T.tag) ∧ ∀ (j : Nat) T U, TT[j]? = some T → TT[j + 1]? = some U → Op.bytesLess T.tag.toList U.tag.toList = true
theorem end4_take_le (TT : List Tb) (a j : Nat) : end4 a (TT.take j) ≤ end4 a TT := by
  unfold end4
  have h : TT.map (fun T => pad4 T.data.length) = (TT.take j).map (fun T => pad4 T.data.length) ++ (TT.drop j).map (fun T => pad4 T.data.length) := by rw [← List.map_append, List.take_append_drop]
  rw [h, List.sum_append_nat]; omega
end Go.Proofs.YteckkcpnfeoehaaGreatDoor

/-
  Layer 8: small functions, walked: matrixSize, outside, has, short.
-/
namespace Go.Proofs.YteckkcpnfeoehaaGreatDoor
set_option maxRecDepth 100000
open Go.RowKit Go.ChangeShapes Go.WideShapes Go.Deep
set_option linter.unusedVariables false

end Go.Proofs.YteckkcpnfeoehaaGreatDoor

/-
  Layer 4: small functions on bytes and one table, walked.
-/
namespace Go.Proofs.YteckkcpnfeoehaaGreatDoor
set_option maxRecDepth 100000
open Go.RowKit Go.ChangeShapes Go.WideShapes Go.Deep
set_option linter.unusedVariables false
set_option linter.unusedSimpArgs false

set_option maxRecDepth 100000 in
set_option maxHeartbeats 4000000 in
theorem bt_clone (A : Option Addr) (n c : Nat) (L : List Int) (w : World) (hr : RdB w w.heap.size A L) (hn : n = L.length) (hL : L.length ≤ 140737488355328) :
    Calls Tryz.prog 85 #[.slice A n c] w fun e w' => ∃ v, e = .returned v ∧ OwnB w' w.heap.size v L ∧ Since w w' := by
  subst hn
  have hnil := fun (w : World) (a : Option Addr) (n c : Nat) => Go.Lib.run_eql_slice_nil (P := Tryz.prog) w 34 5 a n c 0 0 Tryz.underlying34
  cases A with
  | none =>
    have h0 : L = [] := by
      rcases L with _ | ⟨a, l⟩
      · rfl
      · obtain ⟨b, o, h, _⟩ := hr (by simp)
        cases h
    subst h0
    go_enter Tryz.func85, Tryz.ntmps85
    go_wp2_with fail
    go_ret
    exact ⟨_, rfl, OwnG.nil _ _ _ _ _, by (repeat (first | with_reducible (exact Since.refl _) | with_reducible assumption | with_reducible (refine Since.drew ?_) | with_reducible (refine Since.drewN ?_ _) | with_reducible (refine Since.alloc ?_ _) | (with_reducible (refine Since.setCell ?_ ?_ _); rotate_left; focus (first | (simp; done) | (simp; omega) | omega)) | (with_reducible (refine Since.trans ?_ (by with_reducible assumption)))))⟩
  | some a =>
    have HR := Lib.hid hr
    clear hr
    go_enter Tryz.func85, Tryz.ntmps85
    go_wp2_with (at_builtin; refine wpList_append_g rfl _ _ 34 5 rfl (by omega) byL_len byL_one 1 Tryz.underlying34 infoBy w.heap.size _ [] rfl (OwnG.empty _ w w.heap.size _ rfl (Nat.le_refl _)) w.heap.size _ _ L rfl (HR.out.since (Nat.le_refl _) ((Since.refl w).alloc _)) (by simp only [List.length_nil]; omega) (by simp only [List.length_nil, maxLen]; omega) (by simp) ?_; intro v7 w7 hO7 hg7 hb7)
    have hS7 : Since w w7 := since_grown ((Since.refl w).alloc _) hg7 (fun k e => (hb7 k e).1)
    go_ret
    exact ⟨_, rfl, by simpa using hO7, hS7⟩
set_option maxRecDepth 100000 in
set_option maxHeartbeats 4000000 in
theorem sf_has (T : Tb) (A : Option Addr) (n c : Nat) (w : World) (hn : n = T.data.length) (hx : n ≤ maxLen) :
    Calls Tryz.prog 67 #[.agg #[.string T.tag, .slice A n c]] w fun e w' => e = .returned (.bool (adjT T)) ∧ Since w w' := by
  obtain ⟨s, L⟩ := T
  simp only at hn ⊢
  have hnI : (n : Int) ≤ 9223372036854775807 := by simp only [maxLen] at hx; omega
  have HN := Lib.hid hn
  obtain ⟨b, hb⟩ : ∃ b, (s.toList == [104, 101, 97, 100]) = b := ⟨_, rfl⟩
  have E := Lib.hid (show adjT ⟨s, L⟩ = (b && decide (12 ≤ L.length)) by unfold adjT; rw [← hb])
  clear hn
  cases b
  · have hb2 : ¬ s.toList = [104, 101, 97, 100] := by simpa using hb
    go_enter Tryz.func67, Tryz.ntmps67
    go_wp2_with fail
    go_ret
    rw [E.out]
    exact ⟨by first | rfl | simp, by (repeat (first | with_reducible (exact Since.refl _) | with_reducible assumption | with_reducible (refine Since.drew ?_) | with_reducible (refine Since.drewN ?_ _) | with_reducible (refine Since.alloc ?_ _) | (with_reducible (refine Since.setCell ?_ ?_ _); rotate_left; focus (first | (simp; done) | (simp; omega) | omega)) | (with_reducible (refine Since.trans ?_ (by with_reducible assumption)))))⟩
  · have hb2 : s.toList = [104, 101, 97, 100] := by simpa using hb
    by_cases h12 : 12 ≤ n
    · have d1 : decide ((12 : Int) ≤ (n : Int)) = true := by simp; omega
      have d2 : (12 : Int) ≤ (n : Int) := by omega
      go_enter Tryz.func67, Tryz.ntmps67
      go_wp2_with fail
      go_ret
      rw [E.out, decide_eq_true (by rw [← HN.out]; exact h12)]
      exact ⟨by first | rfl | simp, by (repeat (first | with_reducible (exact Since.refl _) | with_reducible assumption | with_reducible (refine Since.drew ?_) | with_reducible (refine Since.drewN ?_ _) | with_reducible (refine Since.alloc ?_ _) | (with_reducible (refine Since.setCell ?_ ?_ _); rotate_left; focus (first | (simp; done) | (simp; omega) | omega)) | (with_reducible (refine Since.trans ?_ (by with_reducible assumption)))))⟩
    · have d1 : decide ((12 : Int) ≤ (n : Int)) = false := by simp; omega
      have d2 : ¬ (12 : Int) ≤ (n : Int) := by omega
      go_enter Tryz.func67, Tryz.ntmps67
      go_wp2_with fail
      go_ret
      rw [E.out, decide_eq_false (by rw [← HN.out]; exact h12)]
      exact ⟨by first | rfl | simp, by (repeat (first | with_reducible (exact Since.refl _) | with_reducible assumption | with_reducible (refine Since.drew ?_) | with_reducible (refine Since.drewN ?_ _) | with_reducible (refine Since.alloc ?_ _) | (with_reducible (refine Since.setCell ?_ ?_ _); rotate_left; focus (first | (simp; done) | (simp; omega) | omega)) | (with_reducible (refine Since.trans ?_ (by with_reducible assumption)))))⟩
theorem OwnB.put {w : World} {base q n c : Nat} {L : List Int} (h : OwnB w base (.slice (some ⟨q, 0, none⟩) n c) L) (i : Nat) (x : Int) :
    OwnB (w.setCell ⟨q, i, none⟩ (.int .u8 x)) base (.slice (some ⟨q, 0, none⟩) n c) (L.set i x) := by
  have hn : n = L.length := by
    rcases h.2 with ⟨h0, _⟩ | ⟨g, cap, cur, h0, _⟩
    · cases h0
    · injection h0 with _ h1 _
  subst hn
  have h3 := (World.ownsRow.stored h i (.int .u8 x)).1
  have e : (cellsG byL L).set i (.int .u8 x) = cellsG byL (L.set i x) := by
    clear h h3
    induction L generalizing i with
    | nil => rfl
    | cons a r ih =>
      cases i with
      | zero => simp [cellsG, byL]
      | succ i =>
        have := ih i
        simp only [cellsG, List.flatMap_cons, byL, List.cons_append, List.nil_append, List.set_cons_succ] at this ⊢
        rw [this]
  rw [e] at h3
  unfold OwnB OwnG
  rw [List.length_set]
  exact h3
theorem set4 (L : List Int) (h : 12 ≤ L.length) : (((L.set 8 0).set 9 0).set 10 0).set 11 0 = L.take 8 ++ ([0, 0, 0, 0] ++ L.drop 12) := by
  rcases L with _ | ⟨a, _ | ⟨b, _ | ⟨c, _ | ⟨d, _ | ⟨e, _ | ⟨f, _ | ⟨g, _ | ⟨h, _ | ⟨i, _ | ⟨j, _ | ⟨k, _ | ⟨l, r⟩⟩⟩⟩⟩⟩⟩⟩⟩⟩⟩⟩ <;> first | rfl | (simp at h; omega) | (simp at h)
theorem OwnB.cell {w : World} {base q n c : Nat} {L : List Int} (h : OwnB w base (.slice (some ⟨q, 0, none⟩) n c) L) (j : Nat) (hj : j < L.length) : w.cell? ⟨q, j, none⟩ = some (.int .u8 (fnL L j)) ∧ w.frozen? ⟨q, j, none⟩ = false := by
  have hn : n = L.length := by
    rcases h.2 with ⟨h0, _⟩ | ⟨g, cap, cur, h0, _⟩
    · cases h0
    · injection h0 with _ h1 _
  obtain ⟨A, c', e, _, hr⟩ := OwnG.rd (by omega) byL_len h
  injection e with e1 e2 e3
  subst e1 hn
  obtain ⟨b, o, e4, _, hc⟩ := rdb_rd hr (by omega)
  injection e4 with e4
  injection e4 with e4 e5
  subst e4 e5
  have h1 := hc j hj
  rw [Nat.zero_add] at h1
  exact ⟨h1, World.ownsRow.frozenAt h j⟩
theorem own_off {w : World} {base q o n c : Nat} {L : List Int} (h : OwnB w base (.slice (some ⟨q, o, none⟩) n c) L) : o = 0 := by
  rcases h.2 with ⟨h0, _⟩ | ⟨g, cap, cur, h0, _⟩
  · cases h0
  · injection h0 with h0 _ _
    injection h0 with h0
    injection h0
theorem clear4 {w : World} {base q n c : Nat} {L : List Int} (h : OwnB w base (.slice (some ⟨q, 0, none⟩) n c) L) (hl : 12 ≤ L.length) : ∀ ty k, (Builtin.clear_ #[34] ty #[.slice (some ⟨q, 8, none⟩) 4 k]).run Tryz.prog w = .ok (.tuple #[]) (w.setCells q 8 (List.replicate 4 (.int .u8 0))) := fun ty k => by
  obtain ⟨i0, hi, hz0, _, _⟩ := info_parts Tryz.info_u8
  exact Lib.run_clear_slice w 34 5 ty (.int .u8 0) Tryz.underlying34 (fun w => by simp [zeroValue, typeInfo, hi, hz0]) rfl rfl q 8 4 k (by omega) (fun j hj => by rw [(OwnB.cell h (8 + j) (by omega)).1]; rfl) (fun j hj => (OwnB.cell h (8 + j) (by omega)).2)
theorem own_clear4 {w : World} {base q n c : Nat} {L : List Int} (h : OwnB w base (.slice (some ⟨q, 0, none⟩) n c) L) (hl : 12 ≤ L.length) : OwnB (w.setCells q 8 (List.replicate 4 (.int .u8 0))) base (.slice (some ⟨q, 0, none⟩) n c) (L.take 8 ++ ([0, 0, 0, 0] ++ L.drop 12)) := by
  have h4 := ((((OwnB.put h 8 0).put 9 0).put 10 0).put 11 0)
  rw [set4 L hl] at h4
  exact h4
set_option maxRecDepth 100000 in
set_option maxHeartbeats 4000000 in
theorem sf_unadj (T : Tb) (A : Option Addr) (n c : Nat) (w : World) (h : RdB w w.heap.size A T.data) (hn : n = T.data.length) (hx : n ≤ 140737488355328) :
    Calls Tryz.prog 63 #[.agg #[.string T.tag, .slice A n c]] w fun e w' => ∃ v, e = .returned v ∧ OwnB w' w.heap.size v (blank4 T) ∧ Since w w' := by
  have HC := Lib.hid (fun (w2 : World) (h2 : Since w w2) => bt_clone A n c T.data w2 (h.on h2) hn (by omega))
  have HH := Lib.hid (fun (w2 : World) => sf_has T A n c w2 hn (by simp only [maxLen]; omega))
  have EB := Lib.hid (show blank4 T = if adjT T then T.data.take 8 ++ ([0, 0, 0, 0] ++ T.data.drop 12) else T.data from rfl)
  have HN := Lib.hid hn
  have h12 : adjT T = true → 12 ≤ n := fun e => by
    unfold adjT at e
    rw [Bool.and_eq_true] at e
    rw [hn]; exact of_decide_eq_true e.2
  have H12 := Lib.hid h12
  obtain ⟨s, L⟩ := T
  simp only at HC HH EB HN h ⊢
  generalize adjT ⟨s, L⟩ = g at *
  generalize blank4 ⟨s, L⟩ = BL at *
  clear hn h h12
  cases g
  · go_enter Tryz.func63, Tryz.ntmps63
    go_wp2_with (first | (go_at_call 85; (with_reducible refine (HC.out _ (by (repeat (first | with_reducible (exact Since.refl _) | with_reducible assumption | with_reducible (refine Since.drew ?_) | with_reducible (refine Since.drewN ?_ _) | with_reducible (refine Since.alloc ?_ _) | (with_reducible (refine Since.setCell ?_ ?_ _); rotate_left; focus (first | (simp; done) | (simp; omega) | omega)) | (with_reducible (refine Since.trans ?_ (by with_reducible assumption))))))).mono ?_); rintro e w2 ⟨v2, rfl, hO2, hS2⟩; obtain ⟨q1, q2, q3⟩ := two_tb hS2) | (go_at_call 67; (with_reducible refine (HH.out _).mono ?_); rintro e w3 ⟨rfl, hS3⟩))
    go_ret
    refine ⟨_, rfl, ?_, by (repeat (first | with_reducible (exact Since.refl _) | with_reducible assumption | with_reducible (refine Since.drew ?_) | with_reducible (refine Since.drewN ?_ _) | with_reducible (refine Since.alloc ?_ _) | (with_reducible (refine Since.setCell ?_ ?_ _); rotate_left; focus (first | (simp; done) | (simp; omega) | omega)) | (with_reducible (refine Since.trans ?_ (by with_reducible assumption)))))⟩
    rw [EB.out, if_neg (by simp)]
    exact (hO2.since hS3).low (by simp)
  · have hn12 := H12.out rfl
    have hnI : (12 : Int) ≤ (n : Int) := by omega
    go_enter Tryz.func63, Tryz.ntmps63
    go_wp2_with (first | (go_at_call 85; (with_reducible refine (HC.out _ (by (repeat (first | with_reducible (exact Since.refl _) | with_reducible assumption | with_reducible (refine Since.drew ?_) | with_reducible (refine Since.drewN ?_ _) | with_reducible (refine Since.alloc ?_ _) | (with_reducible (refine Since.setCell ?_ ?_ _); rotate_left; focus (first | (simp; done) | (simp; omega) | omega)) | (with_reducible (refine Since.trans ?_ (by with_reducible assumption))))))).mono ?_); rintro e w2 ⟨v2, rfl, hO2, hS2⟩; obtain ⟨q1, q2, q3⟩ := two_tb hS2; obtain ⟨A2, c2, rfl, hc2, hr2⟩ := hO2.rd (by omega) byL_len; rw [← HN.out] at hO2 hc2 ⊢; obtain ⟨g2, o2, rfl, hg2, _⟩ := hr2 (by rw [← HN.out]; omega); have ho : o2 = 0 := own_off hO2; subst ho; clear hr2) | (go_at_call 67; (with_reducible refine (HH.out _).mono ?_); rintro e w3 ⟨rfl, hS3⟩; have hO3 := hO2.since hS3; have hcl := clear4 hO3 (by rw [← HN.out]; omega) ; have hc12 : (12 : Int) ≤ (c2 : Int) := (by omega); have hc8 : ¬ c2 = 8 := (by omega)))
    go_ret
    have hgw : w.heap.size ≤ g2 := by have := (hO3.lt (g := g2) rfl).1; simp at this; omega
    have hS4 : Since w w3 := by (repeat (first | with_reducible (exact Since.refl _) | with_reducible assumption | with_reducible (refine Since.drew ?_) | with_reducible (refine Since.drewN ?_ _) | with_reducible (refine Since.alloc ?_ _) | (with_reducible (refine Since.setCell ?_ ?_ _); rotate_left; focus (first | (simp; done) | (simp; omega) | omega)) | (with_reducible (refine Since.trans ?_ (by with_reducible assumption)))))
    refine ⟨_, rfl, ?_, (((hS4.setCell hgw _).setCell hgw _).setCell hgw _).setCell hgw _⟩
    rw [EB.out, if_pos (by trivial)]
    exact (own_clear4 hO3 (by rw [← HN.out]; omega)).low (by simp)
set_option maxRecDepth 100000 in
set_option maxHeartbeats 4000000 in
theorem rf_blank (T : Tb) (A : Option Addr) (n c : Nat) (w : World) (h : RdB w w.heap.size A T.data) (hn : n = T.data.length) (hx : n ≤ 140737488355328) :
    Calls Tryz.prog 79 #[.agg #[.string T.tag, .slice A n c]] w fun e w' => ∃ v, e = .returned v ∧ OwnB w' w.heap.size v (blank4 T) ∧ Since w w' := by
  have HC := Lib.hid (fun (w2 : World) (h2 : Since w w2) => copy_l A n c T.data w2 hn (h.on h2) (by omega))
  have hnI : (n : Int) ≤ 140737488355328 := by omega
  have EB := Lib.hid (show blank4 T = if adjT T then T.data.take 8 ++ ([0, 0, 0, 0] ++ T.data.drop 12) else T.data from rfl)
  have HN := Lib.hid hn
  obtain ⟨s, L⟩ := T
  have EA : adjT ⟨s, L⟩ = ((s.toList == [104, 101, 97, 100]) && decide (12 ≤ L.length)) := rfl
  simp only at HC EB HN h ⊢
  generalize blank4 ⟨s, L⟩ = BL at *
  clear hn h
  by_cases hb : s.toList = [104, 101, 97, 100]
  · have hb2 : (s.toList == [104, 101, 97, 100]) = true := by simpa using hb
    by_cases h12 : 12 ≤ n
    · have hnI12 : (12 : Int) ≤ (n : Int) := by omega
      have d1 : decide ((12 : Int) ≤ (n : Int)) = true := by simpa using hnI12
      have EB2 := Lib.hid (show BL = L.take 8 ++ ([0, 0, 0, 0] ++ L.drop 12) by rw [EB.out, EA, hb2, decide_eq_true (by rw [← HN.out]; exact h12)]; rfl)
      clear EA
      go_enter Tryz.func79, Tryz.ntmps79
      go_wp2_with (go_at_call 24; (with_reducible refine (HC.out _ (by (repeat (first | with_reducible (exact Since.refl _) | with_reducible assumption | with_reducible (refine Since.drew ?_) | with_reducible (refine Since.drewN ?_ _) | with_reducible (refine Since.alloc ?_ _) | (with_reducible (refine Since.setCell ?_ ?_ _); rotate_left; focus (first | (simp; done) | (simp; omega) | omega)) | (with_reducible (refine Since.trans ?_ (by with_reducible assumption))))))).mono ?_); rintro e w2 ⟨g2, c2, rfl, hc2, hg2, hO2, _, hS2⟩; obtain ⟨q1, q2, q3⟩ := two_tb hS2)
      have hS2w : Since w w2 := by (repeat (first | with_reducible (exact Since.refl _) | with_reducible assumption | with_reducible (refine Since.drew ?_) | with_reducible (refine Since.drewN ?_ _) | with_reducible (refine Since.alloc ?_ _) | (with_reducible (refine Since.setCell ?_ ?_ _); rotate_left; focus (first | (simp; done) | (simp; omega) | omega)) | (with_reducible (refine Since.trans ?_ (by with_reducible assumption)))))
      have hg2w : w.heap.size ≤ g2 := by simp at hg2; omega
      have hO2 := hO2.low (base' := w.heap.size) (by simp)
      go_loopw [4] (fun y wr => ∃ (j : Nat) (M : List Int), 8 ≤ j ∧ j ≤ 12 ∧ y = .int .i64 (j : Int) ∧ OwnB wr w.heap.size (.slice (some ⟨g2, 0, none⟩) n c2) M ∧ M.length = n ∧ Since w wr ∧ Hid (M = if j = 8 then L else if j = 9 then L.set 8 0 else if j = 10 then (L.set 8 0).set 9 0 else if j = 11 then ((L.set 8 0).set 9 0).set 10 0 else (((L.set 8 0).set 9 0).set 10 0).set 11 0)) (fun y _ => 12 - (intOf y).toNat)
      case atStart => exact ⟨8, L, by omega, by omega, rfl, hO2, HN.out.symm, hS2w, Lib.hid (by simp)⟩
      case round =>
        obtain ⟨j, M, hj8, hj12, rfl, hO, hM, hS, HM⟩ := hrel
        clear q1 q2 q3 hO2 hS2 hS2w
        by_cases hj : j < 12
        · have hj' : (j : Int) < 12 := by omega
          have hjn : (j : Int) < (n : Int) := by omega
          obtain ⟨k1, k2⟩ := OwnB.cell hO j (by omega)
          have hgz := (hO.lt (g := g2) rfl).2
          have HM2 := Lib.hid (show M.set j 0 = if j + 1 = 8 then L else if j + 1 = 9 then L.set 8 0 else if j + 1 = 10 then (L.set 8 0).set 9 0 else if j + 1 = 11 then ((L.set 8 0).set 9 0).set 10 0 else (((L.set 8 0).set 9 0).set 10 0).set 11 0 by
            have h4 : j = 8 ∨ j = 9 ∨ j = 10 ∨ j = 11 := by omega
            rw [HM.out]
            rcases h4 with rfl | rfl | rfl | rfl <;> rfl)
          go_wp2_with fail
          go_roundw
          case rel => first | exact ⟨j + 1, M.set j 0, by omega, by omega, by first | rfl | go_num | simp, OwnB.put hO j 0, by rw [List.length_set]; exact hM, hS.setCell hg2w _, HM2⟩ | ((repeat apply Exists.intro); refine ⟨?_, rfl⟩; exact ⟨j + 1, M.set j 0, by omega, by omega, by first | rfl | go_num | simp, OwnB.put hO j 0, by rw [List.length_set]; exact hM, hS.setCell hg2w _, HM2⟩)
          case measure => simp [intOf]; omega
        · obtain rfl : j = 12 := by omega
          have HM3 := Lib.hid (show M = BL by rw [HM.out, EB2.out, ← set4 L (by rw [← HN.out]; exact h12)]; rfl)
          go_wp2_with fail
          go_ret
          exact ⟨_, rfl, by rw [← HM3.out]; exact hO, hS⟩
    · have d1 : decide ((12 : Int) ≤ (n : Int)) = false := by simp; omega
      have d2 : ¬ (12 : Int) ≤ (n : Int) := by omega
      have EB2 := Lib.hid (show BL = L by rw [EB.out, EA, decide_eq_false (by rw [← HN.out]; exact h12)]; simp)
      clear EA
      go_enter Tryz.func79, Tryz.ntmps79
      go_wp2_with (go_at_call 24; (with_reducible refine (HC.out _ (by (repeat (first | with_reducible (exact Since.refl _) | with_reducible assumption | with_reducible (refine Since.drew ?_) | with_reducible (refine Since.drewN ?_ _) | with_reducible (refine Since.alloc ?_ _) | (with_reducible (refine Since.setCell ?_ ?_ _); rotate_left; focus (first | (simp; done) | (simp; omega) | omega)) | (with_reducible (refine Since.trans ?_ (by with_reducible assumption))))))).mono ?_); rintro e w2 ⟨g2, c2, rfl, hc2, hg2, hO2, _, hS2⟩; obtain ⟨q1, q2, q3⟩ := two_tb hS2)
      go_ret
      exact ⟨_, rfl, by rw [EB2.out]; exact hO2.low (by simp), by (repeat (first | with_reducible (exact Since.refl _) | with_reducible assumption | with_reducible (refine Since.drew ?_) | with_reducible (refine Since.drewN ?_ _) | with_reducible (refine Since.alloc ?_ _) | (with_reducible (refine Since.setCell ?_ ?_ _); rotate_left; focus (first | (simp; done) | (simp; omega) | omega)) | (with_reducible (refine Since.trans ?_ (by with_reducible assumption)))))⟩
  · have hb2 : (s.toList == [104, 101, 97, 100]) = false := by simpa using hb
    have EB2 := Lib.hid (show BL = L by rw [EB.out, EA, hb2]; simp)
    clear EA
    go_enter Tryz.func79, Tryz.ntmps79
    go_wp2_with (go_at_call 24; (with_reducible refine (HC.out _ (by (repeat (first | with_reducible (exact Since.refl _) | with_reducible assumption | with_reducible (refine Since.drew ?_) | with_reducible (refine Since.drewN ?_ _) | with_reducible (refine Since.alloc ?_ _) | (with_reducible (refine Since.setCell ?_ ?_ _); rotate_left; focus (first | (simp; done) | (simp; omega) | omega)) | (with_reducible (refine Since.trans ?_ (by with_reducible assumption))))))).mono ?_); rintro e w2 ⟨g2, c2, rfl, hc2, hg2, hO2, _, hS2⟩; obtain ⟨q1, q2, q3⟩ := two_tb hS2)
    go_ret
    exact ⟨_, rfl, by rw [EB2.out]; exact hO2.low (by simp), by (repeat (first | with_reducible (exact Since.refl _) | with_reducible assumption | with_reducible (refine Since.drew ?_) | with_reducible (refine Since.drewN ?_ _) | with_reducible (refine Since.alloc ?_ _) | (with_reducible (refine Since.setCell ?_ ?_ _); rotate_left; focus (first | (simp; done) | (simp; omega) | omega)) | (with_reducible (refine Since.trans ?_ (by with_reducible assumption)))))⟩
end Go.Proofs.YteckkcpnfeoehaaGreatDoor

/-
  Layer 4: tags, lengths, and which tables are right, walked.
-/
namespace Go.Proofs.YteckkcpnfeoehaaGreatDoor
set_option maxRecDepth 100000
open Go.RowKit Go.ChangeShapes Go.WideShapes Go.Deep
set_option linter.unusedVariables false
set_option linter.unusedSimpArgs false

theorem nat_andNot3 (a : Nat) (h : a < 2 ^ 63) : a &&& (2 ^ 64 - 1 - 3) = a / 4 * 4 := by
  apply Nat.eq_of_testBit_eq
  intro i
  have e : 2 ^ 64 - 1 - 3 = (2 ^ 62 - 1) * 2 ^ 2 := by decide
  have e2 : a / 4 * 4 = (a / 2 ^ 2) * 2 ^ 2 := by rfl
  rw [Nat.testBit_and, e, e2, Nat.testBit_mul_two_pow, Nat.testBit_mul_two_pow, Nat.testBit_two_pow_sub_one]
  by_cases h2 : 2 ≤ i
  · have h3 : (a / 2 ^ 2).testBit (i - 2) = a.testBit i := by
      rw [Nat.testBit_div_two_pow]; congr 1; omega
    by_cases h4 : i - 2 < 62
    · simp [h2, h3, h4]
    · have : a.testBit i = false := Nat.testBit_lt_two_pow (Nat.lt_of_lt_of_le h (Nat.pow_le_pow_right (by omega) (by omega)))
      simp [h2, h3, this]
  · simp [h2]
theorem andNot3 (a : Nat) (h : a < 4611686018427387904) : bits .andNot .i64 (a : Int) 3 = ((a / 4 * 4 : Nat) : Int) := by
  show IntKind.i64.wrap ((BitVec.ofInt 64 (a : Int) &&& ~~~ BitVec.ofInt 64 3).toNat : Int) = _
  have e3 : (~~~ BitVec.ofInt 64 3).toNat = 2 ^ 64 - 1 - 3 := by decide
  rw [BitVec.ofInt_natCast, BitVec.toNat_and, e3, BitVec.toNat_ofNat, Nat.mod_eq_of_lt (by omega), nat_andNot3 a (by omega), IntKind.wrap_i64]
  omega
set_option maxHeartbeats 4000000 in
theorem sf_padded (n : Nat) (w : World) (hn : n ≤ 140737488355328) : Calls Tryz.prog 68 #[.int .i64 (n : Int)] w fun e w' => e = .returned (.int .i64 (pad4 n : Int)) ∧ w' = w := by
  have h := andNot3 (n + 3) (by omega)
  have u1 : IntKind.i64.wrap ((n : Int) + 3) = ((n + 3 : Nat) : Int) := by rw [IntKind.wrap_i64]; omega
  have E := Lib.hid (show ((n + 3) / 4 * 4 : Nat) = pad4 n from rfl)
  have hnI : (n : Int) ≤ 140737488355328 := by omega
  have h2 : bits .andNot .i64 ((n : Int) + 3) 3 = (((n + 3) / 4 * 4 : Nat) : Int) := by rw [← h]; rfl
  generalize (n + 3) / 4 * 4 = p at *
  clear h
  go_enter Tryz.func68, Tryz.ntmps68
  go_wp2_with fail
  go_ret
  rw [← E.out]
  exact ⟨by first | rfl | simp, rfl⟩
instance (s : ByteArray) : Decidable (TagC s) := by unfold TagC; infer_instance
def TagG (s : ByteArray) : Bool := decide (TagC s)
theorem tagG_bad {s : ByteArray} {j : Nat} (h : j < s.size) (hb : (s[j].toNat : Int) < 32 ∨ 126 < (s[j].toNat : Int)) : TagG s = false := decide_eq_false fun e => by
  have := e.2 j h; omega
theorem tagG_size {s : ByteArray} (h : s.size ≠ 4) : TagG s = false := decide_eq_false fun e => h e.1
theorem tagG_ok {s : ByteArray} (h : s.size = 4) (hb : ∀ (j : Nat) (h : j < s.size), 32 ≤ (s[j].toNat : Int) ∧ (s[j].toNat : Int) ≤ 126) : TagG s = true := decide_eq_true ⟨h, hb⟩
set_option maxHeartbeats 4000000 in
theorem rf_tagged (s : ByteArray) (w : World) (hs : s.size ≤ maxLen) : Calls Tryz.prog 74 #[.string s] w fun e w' => e = .returned (.bool (TagG s)) ∧ w' = w := by
  have hsI : (s.size : Int) ≤ 9223372036854775807 := by simp only [maxLen] at hs; omega
  by_cases h4 : s.size = 4
  · have d0 : ((s.size : Int) == 4) = true := by simp; omega
    have d1 : ((s.size : Int) != 4) = false := by simp; omega
    have H4 := Lib.hid h4
    clear h4
    go_enter Tryz.func74, Tryz.ntmps74
    go_wp2_with fail
    go_loopw [3] (fun y wr => ∃ (j : Nat), j ≤ 4 ∧ y = .int .i64 (j : Int) ∧ Hid (wr = w) ∧ Hid (∀ (i : Nat) (h : i < s.size), i < j → 32 ≤ (s[i].toNat : Int) ∧ (s[i].toNat : Int) ≤ 126)) (fun y _ => 4 - (intOf y).toNat)
    case atStart => exact ⟨0, by omega, rfl, Lib.hid rfl, Lib.hid (fun i h h2 => absurd h2 (by omega))⟩
    case round =>
      obtain ⟨j, hj, rfl, hw, HI⟩ := hrel
      by_cases hj4 : j < 4
      · have hj4' : (j : Int) < 4 := by omega
        have hjs : j < s.size := by rw [H4.out]; exact hj4
        have HB := Lib.hid (fun (hb : (s[j].toNat : Int) < 32 ∨ 126 < (s[j].toNat : Int)) => tagG_bad hjs hb)
        have HN := Lib.hid (show 32 ≤ (s[j].toNat : Int) ∧ (s[j].toNat : Int) ≤ 126 → ∀ (i : Nat) (h : i < s.size), i < j + 1 → 32 ≤ (s[i].toNat : Int) ∧ (s[i].toNat : Int) ≤ 126 from fun hb i h h2 => by
          by_cases e : i = j
          · subst e; exact hb
          · exact HI.out i h (by omega))
        by_cases t1 : (s[j].toNat : Int) < 32
        · have d2 : decide ((s[j].toNat : Int) < 32) = true := by simpa using t1
          have E := Lib.hid (HB.out (.inl t1))
          go_wp2_with fail
          go_ret
          rw [E.out]
          exact ⟨by first | rfl | simp, hw.out⟩
        · have d2 : decide ((s[j].toNat : Int) < 32) = false := by simpa using t1
          by_cases t2 : 126 < (s[j].toNat : Int)
          · have d3 : decide (126 < (s[j].toNat : Int)) = true := by simpa using t2
            have E := Lib.hid (HB.out (.inr t2))
            go_wp2_with fail
            go_ret
            rw [E.out]
            exact ⟨by first | rfl | simp, hw.out⟩
          · have d3 : decide (126 < (s[j].toNat : Int)) = false := by simpa using t2
            have HN2 := Lib.hid (HN.out (by omega))
            go_wp2_with fail
            go_roundw
            case rel => first | exact ⟨j + 1, by omega, by first | rfl | go_num | simp, hw, HN2⟩ | ((repeat apply Exists.intro); refine ⟨?_, rfl⟩; exact ⟨j + 1, by omega, by first | rfl | go_num | simp, hw, HN2⟩)
            case measure => simp [intOf]; omega
      · have hj4' : ¬ (j : Int) < 4 := by omega
        have E := Lib.hid (tagG_ok H4.out (fun i h => HI.out i h (by have := H4.out; omega)))
        go_wp2_with fail
        go_ret
        rw [E.out]
        exact ⟨by first | rfl | simp, hw.out⟩
  · have d0 : ((s.size : Int) == 4) = false := by simp; omega
    have d1 : ((s.size : Int) != 4) = true := by simp; omega
    have E := Lib.hid (tagG_size h4)
    clear h4
    go_enter Tryz.func74, Tryz.ntmps74
    go_wp2_with fail
    go_ret
    rw [E.out]
    exact ⟨by first | rfl | simp, rfl⟩
set_option maxHeartbeats 4000000 in
theorem sf_printable (s : ByteArray) (w : World) (hs : s.size ≤ maxLen) : Calls Tryz.prog 77 #[.string s] w fun e w' => e = .returned (.bool (TagG s)) ∧ w' = w := by
  have hsI : (s.size : Int) ≤ 9223372036854775807 := by simp only [maxLen] at hs; omega
  obtain ⟨n, hn⟩ : ∃ n, n = s.size := ⟨_, rfl⟩
  have HS := Lib.hid hn
  clear hn
  go_enter Tryz.func77, Tryz.ntmps77
  go_wp2_with fail
  go_loopw [6] (fun y wr => ∃ (j : Nat), j ≤ s.size ∧ y = .int .i64 (j : Int) ∧ Hid (wr = w) ∧ Hid (∀ (i : Nat) (h : i < s.size), i < j → 32 ≤ (s[i].toNat : Int) ∧ (s[i].toNat : Int) ≤ 126)) (fun y _ => s.size - (intOf y).toNat)
  case atStart => exact ⟨0, by omega, rfl, Lib.hid rfl, Lib.hid (fun i h h2 => absurd h2 (by omega))⟩
  case round =>
    obtain ⟨j, hj, rfl, hw, HI⟩ := hrel
    by_cases hjs : j < s.size
    · have hjs' : (j : Int) < (s.size : Int) := by omega
      have HB := Lib.hid (fun (hb : (s[j].toNat : Int) < 32 ∨ 126 < (s[j].toNat : Int)) => tagG_bad hjs hb)
      have HN := Lib.hid (show 32 ≤ (s[j].toNat : Int) ∧ (s[j].toNat : Int) ≤ 126 → ∀ (i : Nat) (h : i < s.size), i < j + 1 → 32 ≤ (s[i].toNat : Int) ∧ (s[i].toNat : Int) ≤ 126 from fun hb i h h2 => by
        by_cases e : i = j
        · subst e; exact hb
        · exact HI.out i h (by omega))
      by_cases t1 : (s[j].toNat : Int) < 32
      · have d2 : decide ((s[j].toNat : Int) < 32) = true := by simpa using t1
        have E := Lib.hid (HB.out (.inl t1))
        go_wp2_with fail
        go_ret
        rw [E.out]
        exact ⟨by first | rfl | simp, hw.out⟩
      · have d2 : decide ((s[j].toNat : Int) < 32) = false := by simpa using t1
        by_cases t2 : 126 < (s[j].toNat : Int)
        · have d3 : decide (126 < (s[j].toNat : Int)) = true := by simpa using t2
          have E := Lib.hid (HB.out (.inr t2))
          go_wp2_with fail
          go_ret
          rw [E.out]
          exact ⟨by first | rfl | simp, hw.out⟩
        · have d3 : decide (126 < (s[j].toNat : Int)) = false := by simpa using t2
          have HN2 := Lib.hid (HN.out (by omega))
          go_wp2_with fail
          go_roundw
          case rel => first | exact ⟨j + 1, by omega, by first | rfl | go_num | simp, hw, HN2⟩ | ((repeat apply Exists.intro); refine ⟨?_, rfl⟩; exact ⟨j + 1, by omega, by first | rfl | go_num | simp, hw, HN2⟩)
          case measure => simp [intOf]; omega
    · have hjs' : ¬ (j : Int) < (s.size : Int) := by omega
      by_cases h4 : s.size = 4
      · have d0 : ((s.size : Int) == 4) = true := by simp; omega
        have E := Lib.hid (tagG_ok h4 (fun i h => HI.out i h (by omega)))
        clear h4
        go_wp2_with fail
        go_ret
        rw [E.out]
        exact ⟨by first | rfl | simp, hw.out⟩
      · have d0 : ((s.size : Int) == 4) = false := by simp; omega
        have E := Lib.hid (tagG_size h4)
        clear h4
        go_wp2_with fail
        go_ret
        rw [E.out]
        exact ⟨by first | rfl | simp, hw.out⟩
end Go.Proofs.YteckkcpnfeoehaaGreatDoor
