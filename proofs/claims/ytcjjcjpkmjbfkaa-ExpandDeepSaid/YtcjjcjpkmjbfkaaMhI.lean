/-
  Texts of this seat, put together: each with its own head.
-/
import Derived.Test.YtcjjcjpkmjbfkaaSiO
import Derived.Test.YtcjjcjpkmjbfkaaMhD
import Derived.Test.YtcjjcjpkmjbfkaaMhA
import Derived.Test.YtcjjcjpkmjbfkaaMhB
import Derived.Deep.QuietTactic
import Derived.BigQuiet

/-
  Layer 12: what a simple glyph's bytes are read as: knots in range, contours that hold some, no more than 4096. No walk.
-/
namespace Go.Proofs.Ytcjjcjpkmjbfkaa
open Go.RowKit Go.ChangeShapes Go.WideShapes Go.Deep
set_option linter.unusedVariables false
set_option linter.unusedSimpArgs false

/-- Contours that a glyph may have: each of some knots, all of these in range, at most 4096. -/
def Fine7 (LL : List (List Kt)) : Prop := allIn LL ∧ (∀ L, L ∈ LL → L ≠ []) ∧ sumL LL ≤ 4096
theorem zip7_mem {X Y : List Int} {O : List Bool} : ∀ {k : Kt}, k ∈ zip7 Kt.mk X Y O → k.x ∈ X ∧ k.y ∈ Y := by
  induction X generalizing Y O with
  | nil => intro k h; cases Y <;> cases O <;> simp [zip7] at h
  | cons x xs ih =>
    intro k h
    cases Y with
    | nil => simp [zip7] at h
    | cons y ys =>
      cases O with
      | nil => simp [zip7] at h
      | cons o os =>
        rw [zip7, List.mem_cons] at h
        rcases h with rfl | h
        · exact ⟨by simp, by simp⟩
        · obtain ⟨h1, h2⟩ := ih h
          exact ⟨List.mem_cons_of_mem _ h1, List.mem_cons_of_mem _ h2⟩
theorem zip7_len {X Y : List Int} {O : List Bool} (h1 : X.length = Y.length) (h2 : X.length = O.length) : (zip7 Kt.mk X Y O).length = X.length := by
  induction X generalizing Y O with
  | nil => cases Y <;> cases O <;> rfl
  | cons x xs ih =>
    cases Y with
    | nil => simp at h1
    | cons y ys =>
      cases O with
      | nil => simp at h2
      | cons o os => rw [zip7, List.length_cons, List.length_cons, ih (by simpa using h1) (by simpa using h2)]
theorem cut_fine {e : Nat → Int} {K : List Kt} {k : Nat} (hk : 0 < k) (h0 : 0 ≤ e 0) (hs : ∀ i, i < k → 0 < i → e (i - 1) < e i) (hm : e (k - 1) + 1 = (K.length : Int)) (hK : K.length ≤ 4096) (hin : ∀ x, x ∈ K → inUnit x) : Fine7 ((List.range k).map (seg7 e K)) := by
  have hst : ∀ j, j < k → 0 ≤ st7 e j ∧ st7 e j ≤ e j ∧ 0 ≤ e j := by
    intro j
    induction j with
    | zero => intro _; unfold st7; rw [if_pos rfl]; omega
    | succ j ih =>
      intro hj
      have h1 := ih (by omega)
      have h2 := hs (j + 1) hj (by omega)
      rw [Nat.add_sub_cancel] at h2
      unfold st7
      rw [if_neg (by omega), Nat.add_sub_cancel]
      omega
  have hmono : ∀ d j, j + d < k → e j ≤ e (j + d) := by
    intro d
    induction d with
    | zero => intro j _; exact Int.le_refl _
    | succ d ih =>
      intro j hj
      have h1 := ih j (by omega)
      have h2 := hs (j + d + 1) (by omega) (by omega)
      rw [Nat.add_sub_cancel] at h2
      rw [← Nat.add_assoc]
      omega
  have hle : ∀ j, j < k → e j + 1 ≤ (K.length : Int) := fun j hj => by
    have h1 := hmono (k - 1 - j) j (by omega)
    rw [show j + (k - 1 - j) = k - 1 by omega] at h1
    omega
  have hlen : ∀ j, j < k → ((seg7 e K j).length : Int) = e j + 1 - st7 e j := fun j hj => seg7_len (hst j hj).1 (hst j hj).2.1 (hle j hj)
  refine ⟨fun L hL x hx => ?_, fun L hL => ?_, ?_⟩
  · obtain ⟨j, hj, rfl⟩ := List.mem_map.1 hL
    exact hin x (List.mem_of_mem_take (List.mem_of_mem_drop hx))
  · obtain ⟨j, hj, rfl⟩ := List.mem_map.1 hL
    have hjk := List.mem_range.1 hj
    have h1 := hlen j hjk
    have h2 := hst j hjk
    intro e0
    rw [e0] at h1
    simp at h1
    omega
  · have hsum : ∀ m, m ≤ k → (sumL ((List.range m).map (seg7 e K)) : Int) = if m = 0 then 0 else e (m - 1) + 1 := by
      intro m
      induction m with
      | zero => intro _; rfl
      | succ m ih =>
        intro hmk
        have h1 := ih (by omega)
        have h2 := hlen m (by omega)
        have e1 : sumL ((List.range (m + 1)).map (seg7 e K)) = sumL ((List.range m).map (seg7 e K)) + (seg7 e K m).length := by
          unfold sumL
          rw [List.range_succ, List.map_append, List.map_append, List.sum_append_nat]; simp
        rw [e1, if_neg (by omega), Nat.add_sub_cancel]
        unfold st7 at h2
        by_cases h0 : m = 0
        · subst h0
          rw [if_pos rfl] at h1 h2
          omega
        · rw [if_neg h0] at h1 h2
          omega
    have h1 := hsum k (Nat.le_refl _)
    rw [if_neg (by omega), hm] at h1
    omega
theorem fine_nil : Fine7 [] := by
  unfold Fine7 allIn sumL
  simp
/-- What is read is fine. -/
theorem lay7_fine {f : Nat → Int} {n : Nat} (hf : ∀ j, j < n → 0 ≤ f j ∧ f j ≤ 255) : Fine7 (lay7 (rdAns7 f n)) := by
  have hno : ∀ x, Fine7 (lay7 (no7 x)) := fun x => fine_nil
  unfold rdAns7
  split
  · exact hno _
  split
  · exact hno _
  split
  · exact hno _
  split
  · exact hno _
  rename_i h0 h10 hneg hz
  have hk0 : 0 < (s2 f 0).toNat := by omega
  generalize (s2 f 0).toNat = k at *
  unfold rdA7
  split
  · exact hno _
  split
  · exact hno _
  split
  · exact hno _
  rename_i h1 h2 h3
  unfold rdB7
  split
  · exact hno _
  split
  · exact hno _
  split
  · exact hno _
  rename_i h4 h5 h6
  have hen : ∀ i, i < k → 0 ≤ en7 f i := fun i hi => by
    have := numAt_range (f := f) (p := 10 + 2 * i) (k := 2) (fun j hj => hf j (by omega))
    unfold en7
    omega
  have hek := hen (k - 1) (by omega)
  have hm1 : ((en7 f (k - 1) + 1).toNat : Int) = en7 f (k - 1) + 1 := by omega
  generalize 12 + 2 * k + (numAt f (10 + 2 * k) 2).toNat = p at *
  generalize hm : (en7 f (k - 1) + 1).toNat = m at *
  have h6 : (knGo f n m p).e = 0 := by omega
  unfold lay7
  simp only
  rw [cutE7_all2]
  have hk := h6
  unfold knGo at hk h6 ⊢
  split at hk
  · rename_i q; exact absurd hk q
  rename_i q1
  rw [if_neg q1]
  split at hk
  · rename_i q; exact absurd hk q
  rename_i q2
  rw [if_neg q2]
  split at hk
  · rename_i q; exact absurd hk q
  rename_i q3
  rw [if_neg q3]
  simp only
  have l0 := fl_len f n (fun j hj => (hf j hj).1) m m p (Nat.le_refl _) (by omega)
  have l1 := pl_len f n 2 16 (flGo f n m m p).L 0 (flGo f n m m p).p (by omega)
  have l2 := pl_len f n 4 32 (flGo f n m m p).L 0 (plGo f n 2 16 (flGo f n m m p).L 0 (flGo f n m m p).p).p (by omega)
  have s1 := pl_sh f n 2 16 (flGo f n m m p).L 0 (flGo f n m m p).p (by omega)
  have s2' := pl_sh f n 4 32 (flGo f n m m p).L 0 (plGo f n 2 16 (flGo f n m m p).L 0 (flGo f n m m p).p).p (by omega)
  refine cut_fine hk0 (hen 0 hk0) (fun i hi hi0 => ?_) ?_ ?_ (fun x hx => ?_)
  · rcases Int.lt_or_le (en7 f (i - 1)) (en7 f i) with h | h
    · exact h
    · exact absurd ⟨i, hi, hi0, h⟩ h2
  · rw [zip7_len (by omega) (by rw [List.length_map]; omega), l1, l0]
    omega
  · rw [zip7_len (by omega) (by rw [List.length_map]; omega), l1, l0]
    omega
  · obtain ⟨a1, a2⟩ := zip7_mem hx
    have b1 := s1 _ a1
    have b2 := s2' _ a2
    unfold Sh at b1 b2
    unfold inUnit
    omega
end Go.Proofs.Ytcjjcjpkmjbfkaa

/-
  Layer 12: what a glyph's outline is, as lists: points moved by a part, visits. No walk.
-/
namespace Go.Proofs.Ytcjjcjpkmjbfkaa
open Go.RowKit Go.ChangeShapes Go.WideShapes Go.Deep
set_option linter.unusedVariables false
set_option linter.unusedSimpArgs false

def mvX (P : Pt8) (x y : Int) : Int := (P.m0 * x + P.m2 * y + 8192) / 16384 + 64 * P.x
def mvY (P : Pt8) (x y : Int) : Int := (P.m1 * x + P.m3 * y + 8192) / 16384 + 64 * P.y
def mvK (P : Pt8) (k : Kt) : Kt := ⟨mvX P k.x k.y, mvY P k.x k.y, k.o⟩
/-- Near enough to be reckoned with. -/
def goodK (k : Kt) : Prop := -4194304 ≤ k.x ∧ k.x ≤ 4194304 ∧ -4194304 ≤ k.y ∧ k.y ≤ 4194304
instance (k : Kt) : Decidable (goodK k) := by unfold goodK; infer_instance
def goodL (P : Pt8) (L : List Kt) : Bool := L.all (fun k => decide (goodK (mvK P k)))
def goodO (P : Pt8) (LL : List (List Kt)) : Bool := LL.all (goodL P)
structure St12 where
  (LL : List (List Kt)) (v : Nat) (e : Int)
def parts12 (step : Int → Nat → St12) : List Pt8 → List (List Kt) → Nat → St12
  | [], O, v => ⟨O, v, 0⟩
  | P :: r, O, v =>
    if (step P.g v).e ≠ 0 then ⟨[], (step P.g v).v, (step P.g v).e⟩
    else if goodO P (step P.g v).LL = true then parts12 step r (O ++ (step P.g v).LL.map (List.map (mvK P))) (step P.g v).v
    else ⟨[], (step P.g v).v, 6⟩
def fin12 (r : St12) : St12 := if r.e ≠ 0 then ⟨[], r.v, r.e⟩ else if 4096 < sumL r.LL then ⟨[], r.v, 7⟩ else r
def body12 (step : Int → Nat → St12) (b : List Int) (v : Nat) : St12 :=
  if b.length < 2 then ⟨[], v, 0⟩
  else if 128 ≤ fnL b 0 then (if (rdAns8 (fnL b) b.length).e ≠ 0 then ⟨[], v, (rdAns8 (fnL b) b.length).e⟩ else parts12 step (rdAns8 (fnL b) b.length).L [] v)
  else ⟨(lay7 (rdAns7 (fnL b) b.length)).map (List.map liftK), v, (rdAns7 (fnL b) b.length).e⟩
/-- A visit at a depth: 17 less it. -/
def vis12 (G : List (List Int)) : Nat → Int → Nat → St12
  | 0, _, v => ⟨[], v + 1, 10⟩
  | f + 1, id, v =>
    if id < 0 ∨ (G.length : Int) ≤ id then ⟨[], v + 1, 8⟩
    else if 4096 < v + 1 then ⟨[], v + 1, 7⟩
    else fin12 (body12 (vis12 G f) (G.getD id.toNat []) (v + 1))
/-- An outline that a visit may tell. -/
def Fine12 (LL : List (List Kt)) : Prop := (∀ L, L ∈ LL → ∀ k, k ∈ L → goodK k) ∧ (∀ L, L ∈ LL → L ≠ [])
theorem fine12_nil : Fine12 [] := by
  unfold Fine12
  simp
theorem fine12_app {A B : List (List Kt)} (h : Fine12 A) (k : Fine12 B) : Fine12 (A ++ B) :=
  ⟨fun L hL => (List.mem_append.1 hL).elim (h.1 L) (k.1 L), fun L hL => (List.mem_append.1 hL).elim (h.2 L) (k.2 L)⟩
theorem len_sum {LL : List (List Kt)} (h : ∀ L, L ∈ LL → L ≠ []) : LL.length ≤ sumL LL := by
  induction LL with
  | nil => simp
  | cons a r ih =>
    have h1 := ih (fun L hL => h L (by simp [hL]))
    have h2 : 0 < a.length := by
      rcases a with _ | ⟨x, l⟩
      · exact absurd rfl (h [] (by simp))
      · simp
    unfold sumL at h1 ⊢
    rw [List.map_cons, List.sum_cons, List.length_cons]; omega
theorem mem_sum {LL : List (List Kt)} {L : List Kt} (h : L ∈ LL) : L.length ≤ sumL LL := by
  induction LL with
  | nil => cases h
  | cons a r ih =>
    unfold sumL at ih ⊢
    rw [List.map_cons, List.sum_cons]
    rcases List.mem_cons.1 h with rfl | h
    · omega
    · have := ih h; omega
theorem sum_app (A B : List (List Kt)) : sumL (A ++ B) = sumL A + sumL B := by unfold sumL; rw [List.map_append, List.sum_append_nat]
theorem sum_map (F : Kt → Kt) (LL : List (List Kt)) : sumL (LL.map (List.map F)) = sumL LL := by
  unfold sumL; rw [List.map_map]; congr 1; apply List.map_congr_left; intro L _; simp
theorem fine_lift {LL : List (List Kt)} (h : Fine7 LL) : Fine12 (LL.map (List.map liftK)) := by
  refine ⟨fun L hL k hk => ?_, fun L hL => ?_⟩
  · obtain ⟨M, hM, rfl⟩ := List.mem_map.1 hL
    obtain ⟨x, hx, rfl⟩ := List.mem_map.1 hk
    have := h.1 M hM x hx
    unfold inUnit at this
    unfold goodK liftK
    simp only
    omega
  · obtain ⟨M, hM, rfl⟩ := List.mem_map.1 hL
    have := h.2.1 M hM
    simpa using this
theorem fine_move {P : Pt8} {LL : List (List Kt)} (h : goodO P LL = true) (hn : ∀ L, L ∈ LL → L ≠ []) : Fine12 (LL.map (List.map (mvK P))) := by
  unfold goodO goodL at h
  rw [List.all_eq_true] at h
  refine ⟨fun L hL k hk => ?_, fun L hL => ?_⟩
  · obtain ⟨M, hM, rfl⟩ := List.mem_map.1 hL
    obtain ⟨x, hx, rfl⟩ := List.mem_map.1 hk
    have := h M hM
    rw [List.all_eq_true] at this
    exact of_decide_eq_true (this x hx)
  · obtain ⟨M, hM, rfl⟩ := List.mem_map.1 hL
    have := hn M hM
    simpa using this
theorem parts_fine {step : Int → Nat → St12} (hs : ∀ id v, (step id v).e = 0 → Fine12 (step id v).LL ∧ sumL (step id v).LL ≤ 4096 ∧ (step id v).v ≤ 4096) : ∀ (Ps : List Pt8) (O : List (List Kt)) (v : Nat), v ≤ 4096 → Fine12 O → (parts12 step Ps O v).e = 0 → Fine12 (parts12 step Ps O v).LL ∧ sumL (parts12 step Ps O v).LL ≤ sumL O + Ps.length * 4096 ∧ (parts12 step Ps O v).v ≤ 4096 := by
  intro Ps
  induction Ps with
  | nil => intro O v hv hO _; exact ⟨hO, by simp [parts12], hv⟩
  | cons P r ih =>
    intro O v hv hO h
    unfold parts12 at h ⊢
    split at h
    · rename_i q; exact absurd h q
    rename_i q1
    rw [if_neg q1]
    obtain ⟨s1, s2, s3⟩ := hs P.g v (by omega)
    split at h
    · rename_i q2
      rw [if_pos q2]
      obtain ⟨t1, t2, t3⟩ := ih _ _ s3 (fine12_app hO (fine_move q2 s1.2)) h
      rw [sum_app, sum_map] at t2
      rw [List.length_cons]
      exact ⟨t1, by omega, t3⟩
    · simp at h
theorem fin_fine {r : St12} (h : (fin12 r).e = 0) : r.e = 0 ∧ fin12 r = r ∧ sumL r.LL ≤ 4096 := by
  unfold fin12 at h ⊢
  split at h
  · rename_i q; exact absurd h q
  rename_i q
  rw [if_neg q]
  split at h
  · simp at h
  · rename_i q2
    rw [if_neg q2]
    exact ⟨by omega, rfl, by omega⟩
theorem vis_fine {G : List (List Int)} (hb : ∀ b, b ∈ G → Bytes b) : ∀ (f : Nat) (id : Int) (v : Nat), (vis12 G f id v).e = 0 → Fine12 (vis12 G f id v).LL ∧ sumL (vis12 G f id v).LL ≤ 4096 ∧ (vis12 G f id v).v ≤ 4096 := by
  intro f
  induction f with
  | zero => intro id v h; simp [vis12] at h
  | succ f ih =>
    intro id v h
    unfold vis12 at h ⊢
    split at h
    · simp at h
    rename_i q1
    rw [if_neg q1]
    split at h
    · simp at h
    rename_i q2
    rw [if_neg q2]
    obtain ⟨h1, h2, h3⟩ := fin_fine h
    rw [h2]
    have hbt : Bytes (G.getD id.toNat []) := by
      have hi : id.toNat < G.length := by omega
      rw [List.getD_eq_getElem?_getD, List.getElem?_eq_getElem hi]
      exact hb _ (List.getElem_mem hi)
    generalize G.getD id.toNat [] = b at *
    refine ⟨?_, h3, ?_⟩
    · unfold body12 at h1 ⊢
      split
      · exact fine12_nil
      rename_i q3
      rw [if_neg q3] at h1
      split
      · rename_i q4
        rw [if_pos q4] at h1
        split
        · exact fine12_nil
        · rename_i q5
          rw [if_neg q5] at h1
          exact (parts_fine ih _ _ _ (by omega) fine12_nil h1).1
      · exact fine_lift (lay7_fine (bytes_fn hbt))
    · unfold body12 at h1 ⊢
      split
      · show v + 1 ≤ 4096; omega
      rename_i q3
      rw [if_neg q3] at h1
      split
      · rename_i q4
        rw [if_pos q4] at h1
        split
        · show v + 1 ≤ 4096; omega
        · rename_i q5
          rw [if_neg q5] at h1
          exact (parts_fine ih _ _ _ (by omega) fine12_nil h1).2.2
      · show v + 1 ≤ 4096; omega
end Go.Proofs.Ytcjjcjpkmjbfkaa

/-
  Layer 12: a glyph's kind; a point moved by a part: of the program and of the document.
-/
namespace Go.Proofs.Ytcjjcjpkmjbfkaa
open Go.RowKit Go.ChangeShapes Go.WideShapes Go.Deep
set_option linter.unusedVariables false
set_option linter.unusedSimpArgs false

/-- What a glyph's bytes are. -/
def kd12 (L : List Int) : Int := if L.length < 2 then 0 else if 128 ≤ fnL L 0 then 2 else 1
set_option maxHeartbeats 4000000 in

theorem ft_kind (A : Option Addr) (n c : Nat) (L : List Int) (w : World) (h : RdB w w.heap.size A L) (hn : n = L.length) (hx : n ≤ 140737488355328) :
    Calls Try.prog 31 #[.slice A n c] w fun e w' => e = .returned (.int .i64 (kd12 L)) ∧ Since w w' := by
  have hnI : (n : Int) ≤ 140737488355328 := by omega
  obtain ⟨R, hR⟩ : ∃ R, R = kd12 L := ⟨_, rfl⟩
  rw [← hR]
  unfold kd12 at hR
  rw [← hn] at hR
  by_cases h2 : n < 2
  · rw [if_pos h2] at hR
    subst hR
    have d2 : (n : Int) < 2 := by omega
    clear h
    go_enter Try.func31, Try.ntmps31
    go_wp2_with fail
    go_ret
    exact ⟨by first | rfl | simp, by (repeat (first | with_reducible (exact Since.refl _) | with_reducible assumption | with_reducible (refine Since.drew ?_) | with_reducible (refine Since.drewN ?_ _) | with_reducible (refine Since.alloc ?_ _) | (with_reducible (refine Since.setCell ?_ ?_ _); rotate_left; focus (first | (simp; done) | (simp; omega) | omega)) | (with_reducible (refine Since.trans ?_ (by with_reducible assumption)))))⟩
  · rw [if_neg h2] at hR
    have d2 : ¬ (n : Int) < 2 := by omega
    have d3 : (0 : Int) < (n : Int) := by omega
    obtain ⟨b, o, rfl, hb, hc⟩ := rdb_rd h (by omega)
    have c0 := hc 0 (by omega)
    rw [Nat.add_zero] at c0
    have c1 : w.cell? ⟨b, o, none⟩ = some (.int .u8 (fnL L 0)) := c0
    clear h hc c0 hn
    generalize fnL L 0 = x at *
    by_cases hx : 128 ≤ x
    · rw [if_pos hx] at hR
      subst hR
      go_enter Try.func31, Try.ntmps31
      go_wp2_with fail
      go_ret
      exact ⟨by first | rfl | simp, by (repeat (first | with_reducible (exact Since.refl _) | with_reducible assumption | with_reducible (refine Since.drew ?_) | with_reducible (refine Since.drewN ?_ _) | with_reducible (refine Since.alloc ?_ _) | (with_reducible (refine Since.setCell ?_ ?_ _); rotate_left; focus (first | (simp; done) | (simp; omega) | omega)) | (with_reducible (refine Since.trans ?_ (by with_reducible assumption)))))⟩
    · rw [if_neg hx] at hR
      subst hR
      go_enter Try.func31, Try.ntmps31
      go_wp2_with fail
      go_ret
      exact ⟨by first | rfl | simp, by (repeat (first | with_reducible (exact Since.refl _) | with_reducible assumption | with_reducible (refine Since.drew ?_) | with_reducible (refine Since.drewN ?_ _) | with_reducible (refine Since.alloc ?_ _) | (with_reducible (refine Since.setCell ?_ ?_ _); rotate_left; focus (first | (simp; done) | (simp; omega) | omega)) | (with_reducible (refine Since.trans ?_ (by with_reducible assumption)))))⟩

theorem rf_kind (A : Option Addr) (n c : Nat) (L : List Int) (w : World) (h : RdB w w.heap.size A L) (hn : n = L.length) (hx : n ≤ 140737488355328) :
    Calls Try.prog 36 #[.slice A n c] w fun e w' => e = .returned (.int .i64 (kd12 L)) ∧ Since w w' := by
  have hnI : (n : Int) ≤ 140737488355328 := by omega
  obtain ⟨R, hR⟩ : ∃ R, R = kd12 L := ⟨_, rfl⟩
  rw [← hR]
  unfold kd12 at hR
  rw [← hn] at hR
  by_cases h2 : n < 2
  · rw [if_pos h2] at hR
    subst hR
    have d2 : (n : Int) < 2 := by omega
    clear h
    go_enter Try.func36, Try.ntmps36
    go_wp2_with fail
    go_ret
    exact ⟨by first | rfl | simp, by (repeat (first | with_reducible (exact Since.refl _) | with_reducible assumption | with_reducible (refine Since.drew ?_) | with_reducible (refine Since.drewN ?_ _) | with_reducible (refine Since.alloc ?_ _) | (with_reducible (refine Since.setCell ?_ ?_ _); rotate_left; focus (first | (simp; done) | (simp; omega) | omega)) | (with_reducible (refine Since.trans ?_ (by with_reducible assumption)))))⟩
  · rw [if_neg h2] at hR
    have d2 : ¬ (n : Int) < 2 := by omega
    have d3 : (0 : Int) < (n : Int) := by omega
    obtain ⟨b, o, rfl, hb, hc⟩ := rdb_rd h (by omega)
    have c0 := hc 0 (by omega)
    rw [Nat.add_zero] at c0
    have c1 : w.cell? ⟨b, o, none⟩ = some (.int .u8 (fnL L 0)) := c0
    clear h hc c0 hn
    generalize fnL L 0 = x at *
    by_cases hx : 128 ≤ x
    · rw [if_pos hx] at hR
      subst hR
      go_enter Try.func36, Try.ntmps36
      go_wp2_with fail
      go_ret
      exact ⟨by first | rfl | simp, by (repeat (first | with_reducible (exact Since.refl _) | with_reducible assumption | with_reducible (refine Since.drew ?_) | with_reducible (refine Since.drewN ?_ _) | with_reducible (refine Since.alloc ?_ _) | (with_reducible (refine Since.setCell ?_ ?_ _); rotate_left; focus (first | (simp; done) | (simp; omega) | omega)) | (with_reducible (refine Since.trans ?_ (by with_reducible assumption)))))⟩
    · rw [if_neg hx] at hR
      subst hR
      go_enter Try.func36, Try.ntmps36
      go_wp2_with fail
      go_ret
      exact ⟨by first | rfl | simp, by (repeat (first | with_reducible (exact Since.refl _) | with_reducible assumption | with_reducible (refine Since.drew ?_) | with_reducible (refine Since.drewN ?_ _) | with_reducible (refine Since.alloc ?_ _) | (with_reducible (refine Since.setCell ?_ ?_ _); rotate_left; focus (first | (simp; done) | (simp; omega) | omega)) | (with_reducible (refine Since.trans ?_ (by with_reducible assumption)))))⟩

theorem mul_in {m x : Int} (hm : -32768 ≤ m ∧ m ≤ 32767) (hx : -4194304 ≤ x ∧ x ≤ 4194304) : -137438953472 ≤ m * x ∧ m * x ≤ 137438953472 := by
  have h1 : m.natAbs ≤ 32768 := by omega
  have h2 : x.natAbs ≤ 4194304 := by omega
  have h3 : (m * x).natAbs ≤ 32768 * 4194304 := by rw [Int.natAbs_mul]; exact Nat.mul_le_mul h1 h2
  omega
set_option maxHeartbeats 4000000 in
theorem rf_down (x : Int) (w : World) (hx : -1000000000000 ≤ x ∧ x ≤ 1000000000000) : Calls Try.prog 23 #[.int .i64 x, .int .i64 16384] w fun e w' => e = .returned (.int .i64 (x / 16384)) ∧ w' = w := by
  have h1 := Int.mul_tdiv_add_tmod x 16384
  have h2 : 0 ≤ x → 0 ≤ x.tmod 16384 := fun h => Int.tmod_nonneg _ h
  have h3 := Int.tmod_lt_of_pos x (show (0 : Int) < 16384 by omega)
  have h4 : -16384 < x.tmod 16384 := by
    have := Int.lt_tmod_of_pos x (show (0 : Int) < 16384 by omega)
    omega
  have h5 : 0 < x.tmod 16384 → 0 ≤ x := fun h => by
    rcases Int.lt_or_le x 0 with h6 | h6
    · have := Int.tmod_nonneg 16384 (show 0 ≤ -x by omega)
      rw [Int.neg_tmod] at this
      omega
    · exact h6
  obtain ⟨q, hq⟩ : ∃ q, x.tdiv 16384 = q := ⟨_, rfl⟩
  obtain ⟨r, hr⟩ : ∃ r, x.tmod 16384 = r := ⟨_, rfl⟩
  rw [hq, hr] at h1
  rw [hr] at h2 h3 h4 h5
  have hq1 : IntKind.i64.wrap q = q := by rw [IntKind.wrap_i64]; omega
  by_cases hrn : r < 0
  · have E := Lib.hid (show x / 16384 = q - 1 by omega)
    have hq2 : IntKind.i64.wrap (q - 1) = q - 1 := by rw [IntKind.wrap_i64]; omega
    clear h1 h2 h3 h4 h5
    go_enter Try.func23, Try.ntmps23
    go_wp2_with fail
    go_ret
    exact ⟨by rw [E.out]; first | rfl | simp, rfl⟩
  · have E := Lib.hid (show x / 16384 = q by omega)
    clear h1 h2 h3 h4 h5
    go_enter Try.func23, Try.ntmps23
    go_wp2_with fail
    go_ret
    exact ⟨by rw [E.out]; first | rfl | simp, rfl⟩
set_option maxRecDepth 100000 in
set_option maxHeartbeats 4000000 in
theorem ex_move (P : Pt8) (x y : Int) (w : World) (hP : P8Ok P) (hx : -4194304 ≤ x ∧ x ≤ 4194304) (hy : -4194304 ≤ y ∧ y ≤ 4194304) :
    Calls Try.prog 14 #[.agg #[.int .i64 P.g, .int .i64 P.x, .int .i64 P.y, .int .i64 P.m0, .int .i64 P.m1, .int .i64 P.m2, .int .i64 P.m3], .agg #[.int .i64 x, .int .i64 y]] w fun e w' => e = .returned (.agg #[.int .i64 (mvX P x y), .int .i64 (mvY P x y)]) ∧ Since w w' := by
  obtain ⟨g, px, py, m0, m1, m2, m3⟩ := P
  obtain ⟨_, p1, p2, p3, p4, p5, p6⟩ := hP
  simp only at p1 p2 p3 p4 p5 p6 ⊢
  unfold Sh at p1 p2 p3 p4 p5 p6
  obtain ⟨RX, hRX⟩ : ∃ RX, RX = mvX ⟨g, px, py, m0, m1, m2, m3⟩ x y := ⟨_, rfl⟩
  obtain ⟨RY, hRY⟩ : ∃ RY, RY = mvY ⟨g, px, py, m0, m1, m2, m3⟩ x y := ⟨_, rfl⟩
  rw [← hRX, ← hRY]
  unfold mvX at hRX
  unfold mvY at hRY
  simp only at hRX hRY
  have b0 := mul_in p3 hx
  have b1 := mul_in p4 hx
  have b2 := mul_in p5 hy
  have b3 := mul_in p6 hy
  obtain ⟨A0, e0⟩ : ∃ A0, m0 * x = A0 := ⟨_, rfl⟩
  obtain ⟨A1, e1⟩ : ∃ A1, m1 * x = A1 := ⟨_, rfl⟩
  obtain ⟨A2, e2⟩ : ∃ A2, m2 * y = A2 := ⟨_, rfl⟩
  obtain ⟨A3, e3⟩ : ∃ A3, m3 * y = A3 := ⟨_, rfl⟩
  rw [e0] at b0 hRX
  rw [e1] at b1 hRY
  rw [e2] at b2 hRX
  rw [e3] at b3 hRY
  have w0 : IntKind.i64.wrap A0 = A0 := by rw [IntKind.wrap_i64]; omega
  have w1 : IntKind.i64.wrap A1 = A1 := by rw [IntKind.wrap_i64]; omega
  have w2 : IntKind.i64.wrap A2 = A2 := by rw [IntKind.wrap_i64]; omega
  have w3 : IntKind.i64.wrap A3 = A3 := by rw [IntKind.wrap_i64]; omega
  have w4 : IntKind.i64.wrap (A0 + A2) = A0 + A2 := by rw [IntKind.wrap_i64]; omega
  have w5 : IntKind.i64.wrap (A1 + A3) = A1 + A3 := by rw [IntKind.wrap_i64]; omega
  have w6 : IntKind.i64.wrap (A0 + A2 + 8192) = A0 + A2 + 8192 := by rw [IntKind.wrap_i64]; omega
  have w7 : IntKind.i64.wrap (A1 + A3 + 8192) = A1 + A3 + 8192 := by rw [IntKind.wrap_i64]; omega
  have w8 : IntKind.i64.wrap (64 * px) = 64 * px := by rw [IntKind.wrap_i64]; omega
  have w9 : IntKind.i64.wrap (64 * py) = 64 * py := by rw [IntKind.wrap_i64]; omega
  go_enter Try.func14, Try.ntmps14
  go_upto_region 1 with fail
  go_quiet (fail)
  go_wp2_with fail
  refine bodyPost_ret (by simp only [results, Try.results14]; go_simp) rfl ⟨rfl, by (repeat (first | with_reducible (exact Since.refl _) | with_reducible assumption | with_reducible (refine Since.drew ?_) | with_reducible (refine Since.drewN ?_ _) | with_reducible (refine Since.alloc ?_ _) | (with_reducible (refine Since.setCell ?_ ?_ _); rotate_left; focus (first | (simp; done) | (simp; omega) | omega)) | (with_reducible (refine Since.trans ?_ (by with_reducible assumption)))))⟩
set_option maxRecDepth 100000 in
set_option maxHeartbeats 8000000 in
theorem rf_move (P : Pt8) (x y : Int) (w : World) (hP : P8Ok P) (hx : -4194304 ≤ x ∧ x ≤ 4194304) (hy : -4194304 ≤ y ∧ y ≤ 4194304) :
    Calls Try.prog 15 #[.agg #[.int .i64 P.g, .int .i64 P.x, .int .i64 P.y, .int .i64 P.m0, .int .i64 P.m1, .int .i64 P.m2, .int .i64 P.m3], .agg #[.int .i64 x, .int .i64 y]] w fun e w' => e = .returned (.agg #[.int .i64 (mvX P x y), .int .i64 (mvY P x y)]) ∧ Since w w' := by
  obtain ⟨g, px, py, m0, m1, m2, m3⟩ := P
  obtain ⟨_, p1, p2, p3, p4, p5, p6⟩ := hP
  simp only at p1 p2 p3 p4 p5 p6 ⊢
  unfold Sh at p1 p2 p3 p4 p5 p6
  obtain ⟨RX, hRX⟩ : ∃ RX, RX = mvX ⟨g, px, py, m0, m1, m2, m3⟩ x y := ⟨_, rfl⟩
  obtain ⟨RY, hRY⟩ : ∃ RY, RY = mvY ⟨g, px, py, m0, m1, m2, m3⟩ x y := ⟨_, rfl⟩
  rw [← hRX, ← hRY]
  unfold mvX at hRX
  unfold mvY at hRY
  simp only at hRX hRY
  have b0 := mul_in p3 hx
  have b1 := mul_in p4 hx
  have b2 := mul_in p5 hy
  have b3 := mul_in p6 hy
  obtain ⟨A0, e0⟩ : ∃ A0, m0 * x = A0 := ⟨_, rfl⟩
  obtain ⟨A1, e1⟩ : ∃ A1, m1 * x = A1 := ⟨_, rfl⟩
  obtain ⟨A2, e2⟩ : ∃ A2, m2 * y = A2 := ⟨_, rfl⟩
  obtain ⟨A3, e3⟩ : ∃ A3, m3 * y = A3 := ⟨_, rfl⟩
  rw [e0] at b0 hRX
  rw [e1] at b1 hRY
  rw [e2] at b2 hRX
  rw [e3] at b3 hRY
  have w0 : IntKind.i64.wrap A0 = A0 := by rw [IntKind.wrap_i64]; omega
  have w1 : IntKind.i64.wrap A1 = A1 := by rw [IntKind.wrap_i64]; omega
  have w2 : IntKind.i64.wrap A2 = A2 := by rw [IntKind.wrap_i64]; omega
  have w3 : IntKind.i64.wrap A3 = A3 := by rw [IntKind.wrap_i64]; omega
  have w4 : IntKind.i64.wrap (A0 + A2) = A0 + A2 := by rw [IntKind.wrap_i64]; omega
  have w5 : IntKind.i64.wrap (A1 + A3) = A1 + A3 := by rw [IntKind.wrap_i64]; omega
  have w6 : IntKind.i64.wrap (A0 + A2 + 8192) = A0 + A2 + 8192 := by rw [IntKind.wrap_i64]; omega
  have w7 : IntKind.i64.wrap (A1 + A3 + 8192) = A1 + A3 + 8192 := by rw [IntKind.wrap_i64]; omega
  have w8 : IntKind.i64.wrap (64 * px) = 64 * px := by rw [IntKind.wrap_i64]; omega
  have w9 : IntKind.i64.wrap (64 * py) = 64 * py := by rw [IntKind.wrap_i64]; omega
  have H1 := Lib.hid (fun w => (rf_down (A0 + A2 + 8192) w (by omega)).mono (show ∀ e w', _ → e = .returned (.int .i64 ((A0 + A2 + 8192) / 16384)) ∧ Since w w' from fun e w' ⟨a, b⟩ => ⟨a, by rw [b]; exact Since.refl _⟩))
  have H2 := Lib.hid (fun w => (rf_down (A1 + A3 + 8192) w (by omega)).mono (show ∀ e w', _ → e = .returned (.int .i64 ((A1 + A3 + 8192) / 16384)) ∧ Since w w' from fun e w' ⟨a, b⟩ => ⟨a, by rw [b]; exact Since.refl _⟩))
  obtain ⟨U, hU⟩ : ∃ U, U = (A0 + A2 + 8192) / 16384 := ⟨_, rfl⟩
  obtain ⟨V, hV⟩ : ∃ V, V = (A1 + A3 + 8192) / 16384 := ⟨_, rfl⟩
  rw [← hU] at H1 hRX
  rw [← hV] at H2 hRY
  have u1 : IntKind.i64.wrap (U + 64 * px) = RX := by rw [IntKind.wrap_i64]; omega
  have u2 : IntKind.i64.wrap (V + 64 * py) = RY := by rw [IntKind.wrap_i64]; omega
  have HX := Lib.hid hRX
  have HY := Lib.hid hRY
  clear hRX hRY hU hV b0 b1 b2 b3
  go_enter Try.func15, Try.ntmps15
  go_upto_region 1 with fail
  (refine wp_named fun wr1 hwr1 => ?_; go_region_held3 (fun w' => (∀ b o, b < (w.heap.size + 1 + 1) → w'.cell? ⟨b, o, none⟩ = wr1.cell? ⟨b, o, none⟩) ∧ (∀ b o, b < wr1.heap.size → w'.frozen? ⟨b, o, none⟩ = wr1.frozen? ⟨b, o, none⟩) ∧ (∀ k, k < wr1.heap.size → k < w'.heap.size) ∧ Below ((w.heap.size + 1 + 1)) wr1 w' ∧ (∀ o, o < 2 → w'.cell? ⟨(w.heap.size + 1 + 1), o, none⟩ = some (cellD w' ((w.heap.size + 1 + 1)) o))) ((subst hwr1; (repeat with_reducible (refine sr_set ?_ _ _)); first | assumption | (refine sr_step (by first | assumption | omega | (simp; done) | (simp; omega)) (by assumption) ?_; first | assumption | (repeat (first | with_reducible (exact Since.refl _) | with_reducible assumption | with_reducible (refine Since.drew ?_) | with_reducible (refine Since.drewN ?_ _) | with_reducible (refine Since.alloc ?_ _) | (with_reducible (refine Since.setCell ?_ ?_ _); rotate_left; focus (first | (simp; done) | (simp; omega) | omega))))) | (refine sr_step (by first | assumption | omega | (simp; done) | (simp; omega)) (sr_start (fun o ho => by (have ho' : o = 0 ∨ o = 1 := by omega); rcases ho' with rfl | rfl <;> (first | (simp [go_sem]; done) | simp_all))) ?_; first | assumption | (repeat (first | with_reducible (exact Since.refl _) | with_reducible assumption | with_reducible (refine Since.drew ?_) | with_reducible (refine Since.drewN ?_ _) | with_reducible (refine Since.alloc ?_ _) | (with_reducible (refine Since.setCell ?_ ?_ _); rotate_left; focus (first | (simp; done) | (simp; omega) | omega))))))) (first | (go_at_call 23; (with_reducible refine (H1.out _).mono ?_); rintro e w1 ⟨rfl, hS⟩; have hZ := hS.below.size; (try simp at hZ)) | (go_at_call 23; (with_reducible refine (H2.out _).mono ?_); rintro e w1 ⟨rfl, hS⟩; have hZ := hS.below.size; (try simp at hZ))); all_goals (rename_i hHeld; obtain ⟨hcR1, hfR1, hzR1, hbR1, hoR1⟩ := hHeld; have hiR := fun o ho => there_of (hoR1 o ho); (try simp only [there_set] at hiR); clear hoR1; subst hwr1; have hR1 : Since w _ := sr_out hbR1 (by (repeat (first | with_reducible (exact Since.refl _) | with_reducible assumption | with_reducible (refine Since.drew ?_) | with_reducible (refine Since.drewN ?_ _) | with_reducible (refine Since.alloc ?_ _) | (with_reducible (refine Since.setCell ?_ ?_ _); rotate_left; focus (first | (simp; done) | (simp; omega) | omega)) | (with_reducible (refine Since.trans ?_ (by with_reducible assumption)))))) (by first | (simp; done) | (simp; omega) | omega)))
  all_goals go_wp2
  all_goals refine bodyPost_ret (by simp only [results, Try.results15]; go_simp) rfl ⟨rfl, ?_⟩
  all_goals (repeat (first | with_reducible (exact Since.refl _) | with_reducible assumption | with_reducible (refine Since.drew ?_) | with_reducible (refine Since.drewN ?_ _) | with_reducible (refine Since.alloc ?_ _) | (with_reducible (refine Since.setCell ?_ ?_ _); rotate_left; focus (first | (simp; done) | (simp; omega) | omega)) | (with_reducible (refine Since.trans ?_ (by with_reducible assumption)))))
end Go.Proofs.Ytcjjcjpkmjbfkaa
