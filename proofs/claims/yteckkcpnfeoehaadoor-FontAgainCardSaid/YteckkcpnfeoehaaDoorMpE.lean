/-
  Texts of this seat, put together: each with its own head.
-/
import Derived.Test.YteckkcpnfeoehaaDoorMpD
import Derived.Test.YteckkcpnfeoehaaDoorMnAg

/-
  Layer 7: readKnots, walked.
-/
namespace Go.Proofs.YteckkcpnfeoehaaDoor
set_option maxRecDepth 100000
open Go.RowKit Go.ChangeShapes Go.WideShapes Go.Deep
set_option linter.unusedVariables false
set_option linter.unusedSimpArgs false

theorem fl_le (f : Nat → Int) (n : Nat) (hf : ∀ j, j < n → 0 ≤ f j ∧ f j ≤ 255) : ∀ (k m p : Nat), p ≤ n → (flGo f n k m p).e = 0 → (flGo f n k m p).p ≤ n ∧ Bytes (flGo f n k m p).L := by
  intro k
  induction k with
  | zero => intro m p hp _; exact ⟨hp, fun v hv => by cases hv⟩
  | succ k ih =>
    intro m p hp h
    cases m with
    | zero => exact ⟨hp, fun v hv => by cases hv⟩
    | succ m =>
      rw [fl_cons] at h ⊢
      by_cases h1 : n < p + 1
      · rw [if_pos h1] at h; cases h
      · rw [if_neg h1] at h ⊢
        have hb := hf p (by omega)
        by_cases h8 : Has8 (f p) 8
        · rw [if_pos h8] at h ⊢
          by_cases h2 : n < p + 2
          · rw [if_pos h2] at h; cases h
          · rw [if_neg h2] at h ⊢
            by_cases h3 : (m : Int) < f (p + 1)
            · rw [if_pos h3] at h; cases h
            · rw [if_neg h3] at h ⊢
              by_cases h4 : (flGo f n k (m - (f (p + 1)).toNat) (p + 2)).e ≠ 0
              · rw [if_pos h4] at h; exact absurd h h4
              · rw [if_neg h4]
                obtain ⟨i1, i2⟩ := ih (m - (f (p + 1)).toNat) (p + 2) (by omega) (Decidable.not_not.1 h4)
                refine ⟨i1, bytes_app (fun v hv => ?_) i2⟩
                rw [List.eq_of_mem_replicate hv]; exact hb
        · rw [if_neg h8] at h ⊢
          by_cases h4 : (flGo f n k m (p + 1)).e ≠ 0
          · rw [if_pos h4] at h; exact absurd h h4
          · rw [if_neg h4]
            obtain ⟨i1, i2⟩ := ih m (p + 1) (by omega) (Decidable.not_not.1 h4)
            refine ⟨i1, fun v hv => ?_⟩
            rcases List.mem_cons.1 hv with rfl | hv
            · exact hb
            · exact i2 v hv
theorem pl_le (f : Nat → Int) (n : Nat) (is sm : Int) : ∀ (gs : List Int) (v : Int) (p : Nat), p ≤ n → (plGo f n is sm gs v p).e = 0 → (plGo f n is sm gs v p).p ≤ n := by
  intro gs
  induction gs with
  | nil => intro v p hp _; exact hp
  | cons g r ih =>
    intro v p hp h
    obtain ⟨h1, _, h3, _, h5⟩ := pl_step h
    rw [h5]
    exact ih _ _ h1 h3
theorem OwnG.row {α : Type} {t : TypeId} {k : Nat} {enc : α → List Value} {w : World} {base g n c : Nat} {L : List α} (hk0 : 0 < k) (hk : ∀ a, (enc a).length = k) (h : OwnG t k enc w base (.slice (some ⟨g, 0, none⟩) n c) L) : Row w g (L.length * k) (fun j => (cellsG enc L).getD j undef) := by
  have hn : n = L.length := by
    rcases h.2 with ⟨h0, _⟩ | ⟨g', cap, cur, h0, _⟩
    · cases h0
    · injection h0
  subst hn
  unfold OwnG at h
  rw [cellsG_tab hk] at h
  exact row_of_own_k hk0 h
theorem and7_1 {x : Int} (h0 : 0 ≤ x) (h1 : x ≤ 255) : ∃ s, andB x 1 s := by
  have h := and_pow x 0 h0 (by omega) (by omega)
  simp only [Int.reducePow] at h
  refine ⟨decide (Has8 x 1), rfl, ?_⟩
  rw [h]; unfold Has8
  by_cases e : x / 1 % 2 = 1 <;> simp [e]
def K07 : Kt := ⟨0, 0, false⟩
/-- The cells of knots of which the first j are laid. -/
def KF (X Y : Nat → Int) (O : Nat → Bool) (j t : Nat) : Value := if t / 3 < j then (if t % 3 = 0 then .int .i64 (X (t / 3)) else if t % 3 = 1 then .int .i64 (Y (t / 3)) else .bool (O (t / 3))) else if t % 3 = 2 then .bool false else .int .i64 0
theorem kf_step (X Y : Nat → Int) (O : Nat → Bool) (j t : Nat) : (if t = j * 3 + 2 then Value.bool (O j) else if t = j * 3 + 1 then .int .i64 (Y j) else if t = j * 3 then .int .i64 (X j) else KF X Y O j t) = KF X Y O (j + 1) t := by
  by_cases h : t / 3 = j
  · have h3 : t % 3 = 0 ∨ t % 3 = 1 ∨ t % 3 = 2 := by omega
    unfold KF
    rw [if_pos (show t / 3 < j + 1 by omega), h]
    rcases h3 with e | e | e
    · rw [if_neg (by omega), if_neg (by omega), if_pos (by omega), if_pos e]
    · rw [if_neg (by omega), if_pos (by omega), if_neg (by omega), if_pos e]
    · rw [if_pos (by omega), if_neg (by omega), if_neg (by omega)]
  · rw [if_neg (by omega), if_neg (by omega), if_neg (by omega)]
    unfold KF
    by_cases h2 : t / 3 < j
    · rw [if_pos h2, if_pos (show t / 3 < j + 1 by omega)]
    · rw [if_neg h2, if_neg (show ¬ t / 3 < j + 1 by omega)]
theorem kf_zero (n t : Nat) (ht : t < n * 3) (X Y : Nat → Int) (O : Nat → Bool) : (cellsG knL (List.replicate n K07)).getD t undef = KF X Y O 0 t := by
  have h1 : t / 3 < n := by omega
  have h := cellsG_get knL_len (List.replicate n K07) (t / 3) K07 (by rw [List.getElem?_replicate, if_pos h1]) (t % 3) (by omega)
  rw [show t / 3 * 3 + t % 3 = t by omega] at h
  rw [List.getD_eq_getElem?_getD, h]
  unfold KF
  rw [if_neg (by omega)]
  have h3 : t % 3 = 0 ∨ t % 3 = 1 ∨ t % 3 = 2 := by omega
  rcases h3 with e | e | e <;> rw [e] <;> rfl
theorem kf_rd {w : World} {g m : Nat} {X Y : Nat → Int} {O : Nat → Bool} (h : Row w g (m * 3) (KF X Y O m)) : RdK w w.heap.size (some ⟨g, 0, none⟩) m X Y O := fun hm => by
  refine ⟨g, 0, rfl, h.2.2, fun j hj => ⟨?_, ?_, ?_⟩⟩
  · rw [Nat.zero_add, h.1 _ (by omega)]; unfold KF; rw [if_pos (by omega), if_pos (by omega), show j * 3 / 3 = j by omega]
  · rw [Nat.zero_add, h.1 _ (by omega)]; unfold KF; rw [if_pos (by omega), if_neg (by omega), if_pos (by omega), show (j * 3 + 1) / 3 = j by omega]
  · rw [Nat.zero_add, h.1 _ (by omega)]; unfold KF; rw [if_pos (by omega), if_neg (by omega), if_neg (by omega), show (j * 3 + 2) / 3 = j by omega]
/-- What 'readKnots' leaves. -/
def KnPost7 (T : Kn7) (m : Nat) (w : World) (e : Ending) (w' : World) : Prop :=
  Since w w' ∧ ((T.e ≠ 0 ∧ e = .returned (.tuple #[.slice none 0 0, .int .i64 T.e])) ∨ (T.e = 0 ∧ ∃ b, e = .returned (.tuple #[.slice (some ⟨b, 0, none⟩) m m, .int .i64 0]) ∧ RdKl w' w'.heap.size (some ⟨b, 0, none⟩) (ktL m (fnL T.X) (fnL T.Y) (fun j => decide (Has8 (fnL T.G j) 1)))))
theorem knpost_no {T : Kn7} {m : Nat} {w w' : World} {x : Int} (hT : T.e = x) (hx : x ≠ 0) (hS : Since w w') : KnPost7 T m w (.returned (.tuple #[.slice none 0 0, .int .i64 x])) w' := by
  subst hT; exact ⟨hS, .inl ⟨hx, rfl⟩⟩
end Go.Proofs.YteckkcpnfeoehaaDoor

/-
  Layer 7: Read, walked.
-/
namespace Go.Proofs.YteckkcpnfeoehaaDoor
set_option maxRecDepth 100000
open Go.RowKit Go.ChangeShapes Go.WideShapes Go.Deep
set_option linter.unusedVariables false
set_option linter.unusedSimpArgs false

/-- A block of two cells. -/
def Two (w : World) (b : Nat) (u v : Value) : Prop := w.cell? ⟨b, 0, none⟩ = some u ∧ w.cell? ⟨b, 1, none⟩ = some v ∧ w.frozen? ⟨b, 0, none⟩ = false ∧ w.frozen? ⟨b, 1, none⟩ = false ∧ b < w.heap.size
theorem Two.since {w w' : World} {b : Nat} {u v : Value} (h : Two w b u v) (k : Since w w') : Two w' b u v :=
  ⟨(k.1 _ _ h.2.2.2.2).trans h.1, (k.1 _ _ h.2.2.2.2).trans h.2.1, (k.2.1 _ _ h.2.2.2.2).trans h.2.2.1, (k.2.1 _ _ h.2.2.2.2).trans h.2.2.2.1, k.2.2.1 _ h.2.2.2.2⟩
theorem two_new (w : World) (b : Nat) (hb : b = w.heap.size) (u v : Value) (t : TypeId) : Two (w.alloc (.cells #[u, v] t)) b u v := by
  subst hb
  have h : Row (w.alloc (.cells #[u, v] t)) w.heap.size 2 (fun j => if j = 0 then u else v) := Row.of_cells fun j hj => by
    have h : j = 0 ∨ j = 1 := by omega
    rcases h with rfl | rfl <;> rfl
  exact ⟨h.1 0 (by omega), h.1 1 (by omega), h.2.1 0, h.2.1 1, h.2.2⟩
theorem zip7_kt : ∀ (X Y G : List Int), X.length = Y.length → X.length = G.length → ktL X.length (fnL X) (fnL Y) (fun j => decide (Has8 (fnL G j) 1)) = zip7 Kt.mk X Y (G.map (fun g => decide (Has8 g 1))) := by
  intro X
  induction X with
  | nil => intro Y G h1 h2; rfl
  | cons x X ih =>
    intro Y G h1 h2
    cases Y with
    | nil => simp at h1
    | cons y Y =>
      cases G with
      | nil => simp at h2
      | cons g G =>
        have := ih Y G (by simpa using h1) (by simpa using h2)
        unfold ktL at this ⊢
        rw [List.length_cons, List.range_succ_eq_map, List.map_cons, List.map_map, List.map_cons, zip7, ← this]
        rfl
theorem kn_len (f : Nat → Int) (n m p : Nat) (hf : ∀ j, j < n → 0 ≤ f j) (h : (knGo f n m p).e = 0) : (knGo f n m p).X.length = m ∧ (knGo f n m p).Y.length = m ∧ (knGo f n m p).G.length = m := by
  unfold knGo at h ⊢
  by_cases h1 : (flGo f n m m p).e ≠ 0
  · rw [if_pos h1] at h; exact absurd h h1
  · rw [if_neg h1] at h ⊢
    have hl := fl_len f n hf m m p (Nat.le_refl _) (Decidable.not_not.1 h1)
    by_cases h2 : (plGo f n 2 16 (flGo f n m m p).L 0 (flGo f n m m p).p).e ≠ 0
    · rw [if_pos h2] at h; exact absurd h h2
    · rw [if_neg h2] at h ⊢
      have hx := pl_len f n 2 16 _ _ _ (Decidable.not_not.1 h2)
      by_cases h3 : (plGo f n 4 32 (flGo f n m m p).L 0 (plGo f n 2 16 (flGo f n m m p).L 0 (flGo f n m m p).p).p).e ≠ 0
      · rw [if_pos h3] at h; exact absurd h h3
      · rw [if_neg h3]
        have hy := pl_len f n 4 32 _ _ _ (Decidable.not_not.1 h3)
        exact ⟨hx.trans hl, hy.trans hl, hl⟩
theorem Row.but {w w' : World} {q b n : Nat} {F : Nat → Value} (h : Row w b n F) (k : KeepBut q w w') (hb : b ≠ q) : Row w' b n F := by
  have e := k.2 b h.2.2 hb
  refine ⟨fun j hj => ?_, fun j => ?_, Nat.lt_of_lt_of_le h.2.2 k.1⟩
  · rw [← h.1 j hj]; simp only [World.cell?, e]
  · rw [← h.2.1 j]; simp only [World.frozen?, e]
theorem Nw.but {w w' : World} {q B n : Nat} {A : Option Addr} {V : Nat → Value} (h : Nw w B A n V) (k : KeepBut q w w') (hq : q < B) : Nw w' B A n V := fun hn => by
  obtain ⟨g, rfl, hg, hr⟩ := h hn
  exact ⟨g, rfl, hg, hr.but k (by omega)⟩
/-- The outline that is read. -/
def lay7 (T : An7) : List (List Kt) := cutE7 0 T.E (zip7 Kt.mk T.X T.Y (T.G.map (fun g => decide (Has8 g 1))))
/-- What 'Read' leaves. -/
def RdPost7 (f : Nat → Int) (n : Nat) (w : World) (e : Ending) (w' : World) : Prop := ∃ A1 c1 A2 c2, e = .returned (.tuple #[.agg #[.slice A1 (lay7 (rdAns7 f n)).length c1, .slice A2 (rdAns7 f n).m c2], .int .i64 (rdAns7 f n).e]) ∧ RdOL w' w'.heap.size A1 (lay7 (rdAns7 f n)) ∧ (rdAns7 f n).m ≤ c2 ∧ Nw w' w.heap.size A2 (rdAns7 f n).m (U8 (fun j => f ((rdAns7 f n).s + j))) ∧ Since w w'
theorem rdpost7_no {f : Nat → Int} {n : Nat} {w w' : World} {x : Int} (h : rdAns7 f n = no7 x) (hS : Since w w') : RdPost7 f n w (.returned (.tuple #[.agg #[.slice none 0 0, .slice none 0 0], .int .i64 x])) w' := by
  unfold RdPost7
  rw [h]
  exact ⟨none, 0, none, 0, rfl, ⟨[], rfl, RdG.nil, fun j h L h1 h2 => by simp at h1⟩, Nat.le_refl _, Nw.zero, hS⟩
end Go.Proofs.YteckkcpnfeoehaaDoor
