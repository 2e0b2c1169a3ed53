/-
  Texts of this seat, put together: each with its own head.
-/
import Derived.Test.YtckochcocflleaaGreatCrV
import Derived.Test.YtckochcocflleaaGreatMgM
import Derived.Test.YtckochcocflleaaGreatRmB
import Derived.Test.YtckochcocflleaaGreatKitB

/-
  Layer 15: what good lines have in common has good numbers.
-/
namespace Go.Proofs.YtckochcocflleaaGreat
open Go.RowKit
set_option linter.unusedVariables false

theorem wf_lnG {s : Ln} (h : lnG s = true) : s.wf := by
  have k1 := goodB_iff.1 (Bool.and_eq_true_iff.1 h).1
  have k2 := goodB_iff.1 (Bool.and_eq_true_iff.1 h).2
  unfold Ln.wf InP In64
  omega
theorem meet_ok (s t : Ln) (hs : lnG s = true) (ht : lnG t = true) (w : World) : Calls Tryz.prog 15 #[s.v, t.v] w fun e w' => e = .returned (.tuple #[(meetG s t).v, .int .i64 0]) ∧ Since w w' := by
  have h := cr_meet s t (wf_lnG hs) (wf_lnG ht) w
  unfold meetCp meetE at h
  rw [hs, ht] at h
  exact h
theorem meet_d (s t : Ln) (hs : lnG s = true) (ht : lnG t = true) : (meetG s t).d ≤ 1125899906842624 := by
  have k1 := goodB_iff.1 (Bool.and_eq_true_iff.1 hs).1
  have k2 := goodB_iff.1 (Bool.and_eq_true_iff.1 hs).2
  have k3 := goodB_iff.1 (Bool.and_eq_true_iff.1 ht).1
  have k4 := goodB_iff.1 (Bool.and_eq_true_iff.1 ht).2
  have n1 : Near (s.bx - s.ax) := by unfold Near; omega
  have n2 : Near (s.bz - s.ay) := by unfold Near; omega
  have n5 : Near (t.bx - t.ax) := by unfold Near; omega
  have n6 : Near (t.bz - t.ay) := by unfold Near; omega
  have m5 := near_mul n1 n6; have m6 := near_mul n2 n5
  have hc : -562949953421312 ≤ cC s t ∧ cC s t ≤ 562949953421312 := by unfold cC crossI; omega
  unfold meetG
  split
  · decide
  · split
    · rcases touch_cases (ends s t) with ⟨_, e⟩ | ⟨x, _, e⟩ | e <;> rw [e]
      · decide
      · show (1 : Int) ≤ _; omega
      · decide
    · unfold crossCp
      split
      · rcases crossPos_k s (-nC s t) (-mC s t) (-cC s t) with ⟨_, e⟩ | ⟨_, e⟩ <;> rw [e]
        · show -cC s t ≤ _; omega
        · decide
      · rcases crossPos_k s (nC s t) (mC s t) (cC s t) with ⟨_, e⟩ | ⟨_, e⟩ <;> rw [e]
        · show cC s t ≤ _; omega
        · decide
theorem meet_sh (s t : Ln) (hs : lnG s = true) (ht : lnG t = true) (hk : (meetG s t).k = 1) : ShOK (meetG s t).x (meetG s t).d ∧ ShOK (meetG s t).y (meetG s t).d := by
  have k1 := goodB_iff.1 (Bool.and_eq_true_iff.1 hs).1
  have k2 := goodB_iff.1 (Bool.and_eq_true_iff.1 hs).2
  have hd := meet_d s t hs ht
  obtain ⟨h0, h1, h2, h3, h4⟩ := meetG_in s t hk
  have l1 : -4194304 ≤ lo2 s.ax s.bx := by unfold lo2; split <;> omega
  have l2 : hi2 s.ax s.bx ≤ 4194304 := by unfold hi2; split <;> omega
  have l3 : -4194304 ≤ lo2 s.ay s.bz := by unfold lo2; split <;> omega
  have l4 : hi2 s.ay s.bz ≤ 4194304 := by unfold hi2; split <;> omega
  have b1 : -4194304 * (meetG s t).d ≤ lo2 s.ax s.bx * (meetG s t).d := Int.mul_le_mul_of_nonneg_right l1 (by omega)
  have b2 : hi2 s.ax s.bx * (meetG s t).d ≤ 4194304 * (meetG s t).d := Int.mul_le_mul_of_nonneg_right l2 (by omega)
  have b3 : -4194304 * (meetG s t).d ≤ lo2 s.ay s.bz * (meetG s t).d := Int.mul_le_mul_of_nonneg_right l3 (by omega)
  have b4 : hi2 s.ay s.bz * (meetG s t).d ≤ 4194304 * (meetG s t).d := Int.mul_le_mul_of_nonneg_right l4 (by omega)
  unfold ShOK
  omega
theorem pixel_ok (s t : Ln) (hs : lnG s = true) (ht : lnG t = true) (w : World) : Calls Tryz.prog 16 #[(meetG s t).v] w fun e w' => e = .returned (.tuple #[Pt (pixX (meetG s t)) (pixY (meetG s t)), .bool ((meetG s t).k == 1)]) ∧ Since w w' :=
  cr_pixel _ (meet_sh s t hs ht) w
end Go.Proofs.YtckochcocflleaaGreat

/-
  Layer 15's document: what two lines have in common, in numbers; its row in memory.
-/
namespace Go.Proofs.YtckochcocflleaaGreat
open Go.RowKit
set_option linter.unusedVariables false

/-- The document's, without a look at boxes. -/
def meetN (s t : Ln) : Cp := if cC s t = 0 then touchOf (ends s t) else crossCp s t
theorem apart_no {a b c d n : Int} (h : aprt a b c d = true) (k : lo2 a b ≤ n ∧ n ≤ hi2 a b) (j : lo2 c d ≤ n ∧ n ≤ hi2 c d) : False := by
  rw [aprt_not k j] at h; cases h
theorem cross_in2 (s t : Ln) (h : cC s t ≠ 0) (hk : (crossCp s t).k = 1) : boxP (crossCp s t) t := by
  have h2 : cC t s ≠ 0 := by rw [cC_swap]; omega
  have := (cross_in t s h2 (by rw [cross_swap s t h]; exact hk)).2
  rw [cross_swap s t h] at this
  exact this
theorem box_not {a b c d x e : Int} (he : 0 < e) (h : aprt a b c d = true) (k : lo2 a b * e ≤ x ∧ x ≤ hi2 a b * e) (j : lo2 c d * e ≤ x ∧ x ≤ hi2 c d * e) : False := by
  unfold aprt at h
  simp only [Bool.or_eq_true, decide_eq_true_eq] at h
  rcases h with h | h
  · have := Int.mul_lt_mul_of_pos_right h he
    omega
  · have := Int.mul_lt_mul_of_pos_right h he
    omega
theorem cross_k (s t : Ln) : (crossCp s t).k = 1 ∨ crossCp s t = cpNone := by
  unfold crossCp crossPos
  split <;> split
  · exact .inl rfl
  · exact .inr rfl
  · exact .inl rfl
  · exact .inr rfl
theorem meetN_eq (s t : Ln) : meetN s t = meetG s t := by
  unfold meetN meetG
  cases ha : aprtL s t
  · rfl
  · rw [if_pos rfl]
    unfold aprtL at ha
    rw [Bool.or_eq_true] at ha
    by_cases h0 : cC s t = 0
    · rw [if_pos h0]
      rcases touch_cases (ends s t) with ⟨_, e⟩ | ⟨x, hx, _⟩ | e
      · exact e
      all_goals (
        exfalso
        obtain ⟨x, hx⟩ : ∃ x, x ∈ ends s t := by
          first
          | exact ⟨x, hx⟩
          | (cases hE : ends s t with
             | nil => rw [hE] at e; cases e
             | cons a r => exact ⟨a, by simp⟩)
        have h1 := ends_in s t x hx
        have hx2 : x ∈ ends t s := by
          rcases mem_ends.1 hx with h | h | h | h
          · exact mem_ends.2 (.inr (.inr (.inl h)))
          · exact mem_ends.2 (.inr (.inr (.inr h)))
          · exact mem_ends.2 (.inl h)
          · exact mem_ends.2 (.inr (.inl h))
        have h2 := ends_in t s x hx2
        rcases ha with ha | ha
        · exact apart_no ha (btw_iff.1 h1.1) (btw_iff.1 h2.1)
        · exact apart_no ha (btw_iff.1 h1.2) (btw_iff.1 h2.2))
    · rw [if_neg h0]
      rcases cross_k s t with hk | e
      · exfalso
        obtain ⟨hd, b1, b2, b3, b4⟩ := cross_in s t h0 hk
        obtain ⟨c1, c2, c3, c4⟩ := cross_in2 s t h0 hk
        rcases ha with ha | ha
        · exact box_not hd ha ⟨b1, b2⟩ ⟨c1, c2⟩
        · exact box_not hd ha ⟨b3, b4⟩ ⟨c3, c4⟩
      · exact e
/-- How many different points, and the first, of those met so far. -/
def stN : List (Int × Int) → Int
  | [] => 0
  | e :: r => if r.all (fun x => x == e) then 1 else 2
theorem touch_st (T : List (Int × Int)) : (T = [] ∧ stN T = 0 ∧ touchOf T = cpNone) ∨ (T ≠ [] ∧ stN T = 1 ∧ touchOf T = ⟨1, (T.headD (0, 0)).1, (T.headD (0, 0)).2, 1⟩) ∨ (T ≠ [] ∧ stN T = 2 ∧ touchOf T = ⟨2, 0, 0, 0⟩) := by
  cases T with
  | nil => exact .inl ⟨rfl, rfl, rfl⟩
  | cons a r =>
    right
    unfold stN touchOf
    by_cases h : (r.all fun x => x == a) = true
    · exact .inl ⟨by simp, if_pos h, if_pos h⟩
    · exact .inr ⟨by simp, if_neg h, if_neg h⟩
theorem st_first (p : Int × Int) : stN ([] ++ [p]) = 1 ∧ ([] ++ [p]).headD (0, 0) = p := ⟨rfl, rfl⟩
theorem st_same {T : List (Int × Int)} (h : T ≠ []) : stN (T ++ [T.headD (0, 0)]) = stN T ∧ (T ++ [T.headD (0, 0)]).headD (0, 0) = T.headD (0, 0) := by
  cases T with
  | nil => exact absurd rfl h
  | cons a r =>
    refine ⟨?_, rfl⟩
    show (if (((r ++ [a]).all fun x => x == a) = true) then (1 : Int) else 2) = if (r.all fun x => x == a) = true then 1 else 2
    simp only [List.all_append, List.all_cons, List.all_nil, BEq.rfl, Bool.and_true]
theorem st_other {T : List (Int × Int)} (h : T ≠ []) {p : Int × Int} (hp : p ≠ T.headD (0, 0)) : stN (T ++ [p]) = 2 ∧ (T ++ [p]).headD (0, 0) = T.headD (0, 0) := by
  cases T with
  | nil => exact absurd rfl h
  | cons a r =>
    have hp' : p ≠ a := hp
    exact ⟨by simp [stN, hp'], rfl⟩
def four4 (s t : Ln) : List (Int × Int) := [(s.ax, s.ay), (s.bx, s.bz), (t.ax, t.ay), (t.bx, t.bz)]
def bothP (s t : Ln) (p : Int × Int) : Bool := onB p.1 p.2 s && onB p.1 p.2 t
theorem on_stop (s : Ln) (h : lnG s = true) : onB s.bx s.bz s = true := by
  have := on_start (rev s) (by rw [lnG_rev]; exact h)
  rw [onB_rev] at this
  exact this
theorem ends_filter (s t : Ln) (hs : lnG s = true) (ht : lnG t = true) : (four4 s t).filter (bothP s t) = ends s t := by
  have h1 := on_start s hs; have h2 := on_stop s hs; have h3 := on_start t ht; have h4 := on_stop t ht
  have k1 : bothP s t (s.ax, s.ay) = onB s.ax s.ay t := by unfold bothP; rw [h1]; rfl
  have k2 : bothP s t (s.bx, s.bz) = onB s.bx s.bz t := by unfold bothP; rw [h2]; rfl
  have k3 : bothP s t (t.ax, t.ay) = onB t.ax t.ay s := by unfold bothP; rw [h3, Bool.and_true]
  have k4 : bothP s t (t.bx, t.bz) = onB t.bx t.bz s := by unfold bothP; rw [h4, Bool.and_true]
  unfold four4 ends
  simp only [List.filter_cons, List.filter_nil, k1, k2, k3, k4]
  cases onB s.ax s.ay t <;> cases onB s.bx s.bz t <;> cases onB t.ax t.ay s <;> cases onB t.bx t.bz s <;> rfl
theorem filter_take {α : Type} {L : List α} {f : α → Bool} {j : Nat} {a : α} (h : L[j]? = some a) : (L.take (j + 1)).filter f = (L.take j).filter f ++ (if f a then [a] else []) := by
  rw [List.take_add_one, h, List.filter_append]
  cases hf : f a <;> simp [hf]
theorem rprow0 (w : World) (b : Nat) (hb : b = w.heap.size) (t : TypeId) : Row (w.alloc (.cells #[.int .i64 0, .int .u32 0, .int .u32 0, .int .u32 0, .int .u32 0, .int .u32 0, .int .u32 0, .int .u32 0, .int .u32 0, .int .u32 0, .int .u32 0, .int .u32 0, .int .u32 0, .int .u32 0, .int .u32 0, .int .u32 0, .int .u32 0, .int .i64 0] t)) b 18 (RPf cpNone) := by
  subst hb
  refine Row.of_cells fun j hj => ?_
  have h : j = 0 ∨ j = 1 ∨ j = 2 ∨ j = 3 ∨ j = 4 ∨ j = 5 ∨ j = 6 ∨ j = 7 ∨ j = 8 ∨ j = 9 ∨ j = 10 ∨ j = 11 ∨ j = 12 ∨ j = 13 ∨ j = 14 ∨ j = 15 ∨ j = 16 ∨ j = 17 := by omega
  rcases h with rfl | rfl | rfl | rfl | rfl | rfl | rfl | rfl | rfl | rfl | rfl | rfl | rfl | rfl | rfl | rfl | rfl | rfl <;> simp [RPf, cpNone, dg]
/-- The row read as one value. -/
theorem rp_range {w : World} {b : Nat} {p : Cp} (h : Row w b 18 (RPf p)) : w.rangeAt b 0 [.int .i64 p.k, .int .u32 (dg p.x 0), .int .u32 (dg p.x 1), .int .u32 (dg p.x 2), .int .u32 (dg p.x 3), .int .u32 (dg p.x 4), .int .u32 (dg p.x 5), .int .u32 (dg p.x 6), .int .u32 (dg p.x 7), .int .u32 (dg p.y 0), .int .u32 (dg p.y 1), .int .u32 (dg p.y 2), .int .u32 (dg p.y 3), .int .u32 (dg p.y 4), .int .u32 (dg p.y 5), .int .u32 (dg p.y 6), .int .u32 (dg p.y 7), .int .i64 p.d] := row_range h _ fun j v hv => by
  have hj : j < 18 := by
    rcases Nat.lt_or_ge j 18 with h | h
    · exact h
    · rw [List.getElem?_eq_none (by simpa using h)] at hv; cases hv
  have hh : j = 0 ∨ j = 1 ∨ j = 2 ∨ j = 3 ∨ j = 4 ∨ j = 5 ∨ j = 6 ∨ j = 7 ∨ j = 8 ∨ j = 9 ∨ j = 10 ∨ j = 11 ∨ j = 12 ∨ j = 13 ∨ j = 14 ∨ j = 15 ∨ j = 16 ∨ j = 17 := by omega
  rcases hh with rfl | rfl | rfl | rfl | rfl | rfl | rfl | rfl | rfl | rfl | rfl | rfl | rfl | rfl | rfl | rfl | rfl | rfl <;> (injection hv with hv; subst hv; first | exact ⟨rfl, by omega⟩ | exact ⟨by omega, rfl⟩ | rfl)
end Go.Proofs.YtckochcocflleaaGreat
