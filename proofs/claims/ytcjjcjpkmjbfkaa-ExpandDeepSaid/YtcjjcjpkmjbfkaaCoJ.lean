/-
  Layer 8: the reference's Write, walked.
-/
import Derived.Test.YtcjjcjpkmjbfkaaCoI
import Derived.Test.YtcjjcjpkmjbfkaaCoG
namespace Go.Proofs.Ytcjjcjpkmjbfkaa
open Go.RowKit Go.ChangeShapes Go.WideShapes Go.Deep
set_option linter.unusedVariables false
set_option linter.unusedSimpArgs false

theorem own_apart8 {α β : Type} {e1 : α → List Value} {e2 : β → List Value} {t1 t2 : TypeId} {k1 k2 b1 b2 : Nat} {w : World} {v1 v2 : Value} {L1 : List α} {L2 : List β} (h1 : OwnG t1 k1 e1 w b1 v1 L1) (h2 : OwnG t2 k2 e2 w b2 v2 L2) (ht : t1 ≠ t2) {q : Nat} (hq : v1.ownBlock = some q) : v2.ownBlock ≠ some q := by
  intro hq2
  rcases h1.2 with ⟨rfl, _⟩ | ⟨g, c, cur, rfl, _, hh, _⟩
  · cases hq
  · rcases h2.2 with ⟨rfl, _⟩ | ⟨g', c', cur', rfl, _, hh', _⟩
    · cases hq2
    · simp only [Value.ownBlock, Option.some.injEq] at hq hq2
      subst hq
      subst hq2
      rw [hh] at hh'
      injection hh' with hh'
      injection hh' with _ e _
      exact ht e
/-- append of bytes, and what it grows. -/
theorem wpList_append_b2 {w w0 : World} {ops : Array Oper} {rest : List Oper} {o : Oper} {a : Act} {Q : Exit → Act → World → Prop} (hgd : o.guard = none) (s x : Operand)
    (ho : o.op = .call { callee := .builtin .append, args := #[s, x], argTypes := #[25, 25] })
    (hS : Since w0 w) (v : Value) (L : List Int) (hs : a.eval s = v) (hown : OwnB w w0.heap.size v L) (B : Nat) (A : Option Addr) (n c : Nat) (M : List Int) (hn : n = M.length) (hx : a.eval x = .slice A n c) (hr : RdB w B A M)
    (hbytes : L.length + M.length ≤ 140737488355328)
    (h : ∀ v' w', OwnB w' w0.heap.size v' (L ++ M) → Since w0 w' → w.grownBy w' v.ownBlock → wpList Try.prog ops Q rest (a.put o.dst v') w') :
    wpList Try.prog ops Q (o :: rest) a w := by
  subst hn
  refine wpList_append_g hgd s x 25 5 ho (by omega) byL_len byL_one 1 Try.underlying25 infoBy w0.heap.size v L hs hown B A c M hx hr (by omega) (by simp only [maxLen]; omega) hS.below.size (fun v' w' h9 hg hlt => h v' w' h9 (since_grown hS hg (fun k hk => (hlt k hk).1)) hg)
/-- One part in a block of its own. -/
abbrev OneP (w : World) (base b : Nat) (P : Pt8) : Prop := OwnP8 w base (.slice (some ⟨b, 0, none⟩) 1 1) [P]
theorem oneP_new (w : World) (base b : Nat) (hb : b = w.heap.size) (hB : base ≤ w.heap.size) (g0 x0 y0 a0 a1 a2 a3 : Int) : OneP (w.alloc (.cells #[.int .i64 g0, .int .i64 x0, .int .i64 y0, .int .i64 a0, .int .i64 a1, .int .i64 a2, .int .i64 a3] 44)) base b ⟨g0, x0, y0, a0, a1, a2, a3⟩ := by
  subst hb
  exact ⟨by simp [cellsG, ptV], .inr ⟨w.heap.size, 1, _, rfl, hB, heap_alloc_new w _, Nat.le_refl _, by simp [maxLen], by simp, by simp [cellsG, ptV]⟩⟩
theorem oneP_cells {w : World} {base b : Nat} {P : Pt8} (h : OneP w base b P) : w.cell? ⟨b, 0, none⟩ = some (.int .i64 P.g) ∧ w.cell? ⟨b, 1, none⟩ = some (.int .i64 P.x) ∧ w.cell? ⟨b, 2, none⟩ = some (.int .i64 P.y) ∧ w.cell? ⟨b, 3, none⟩ = some (.int .i64 P.m0) ∧ w.cell? ⟨b, 4, none⟩ = some (.int .i64 P.m1) ∧ w.cell? ⟨b, 5, none⟩ = some (.int .i64 P.m2) ∧ w.cell? ⟨b, 6, none⟩ = some (.int .i64 P.m3) := by
  obtain ⟨A, c, e, _, hr⟩ := h.rd (by omega) ptV_len
  injection e with e _ _
  subst e
  obtain ⟨b', o, e, _, hc⟩ := hr (by simp)
  injection e with e
  injection e with e1 e2
  subst e1 e2
  have k := fun i hi => hc 0 P rfl i hi
  simp only [Nat.zero_mul, Nat.zero_add] at k
  exact ⟨k 0 (by omega), k 1 (by omega), k 2 (by omega), k 3 (by omega), k 4 (by omega), k 5 (by omega), k 6 (by omega)⟩
theorem OneP.grow {w w' : World} {base base' b : Nat} {P : Pt8} {v : Value} {L : List Int} (h : OneP w base b P) (hO : OwnB w base' v L) (hg : w.grownBy w' v.ownBlock) : OneP w' base b P :=
  OwnG.grown h hg (fun q hq e => own_apart8 h hO (by decide) hq e)
theorem OwnG.growI {w w' : World} {base base' : Nat} {u v : Value} {M L : List Int} (h : OwnG 3 1 inL w base u M) (hO : OwnB w base' v L) (hg : w.grownBy w' v.ownBlock) : OwnG 3 1 inL w' base u M :=
  OwnG.grown h hg (fun q hq e => own_apart8 h hO (by decide) hq e)
/-- In the loop over a part's numbers. -/
def Tn8 (w : World) (tv : Value) (tn X4 : List Int) (v y : Value) (wx : World) : Prop :=
  ∃ i : Nat, i ≤ tn.length ∧ y = .int .i64 (i : Int) ∧ OwnB wx w.heap.size v (X4 ++ nums8 (tn.take i)) ∧ Since w wx ∧ OwnG 3 1 inL wx w.heap.size tv tn ∧ (X4 ++ nums8 (tn.take i)).length ≤ X4.length + 2 * i
theorem emp_yes {C : List Int} (h : 0 < C.length) : (!C.isEmpty) = true := by
  cases C with
  | nil => simp at h
  | cons a l => rfl
theorem emp_no {C : List Int} (h : C.length = 0) : (!C.isEmpty) = false := by
  cases C with
  | nil => rfl
  | cons a l => simp at h
theorem parts8_cons (hc : Bool) (p : Pt8) (r : List Pt8) : parts8 hc (p :: r) = part8 p (tail8 r hc) ++ parts8 hc r := rfl
theorem tn_step {tn : List Int} {i : Nat} (h : i < tn.length) : ∃ q, tn[i]? = some q ∧ q ∈ tn ∧ tn.take (i + 1) = tn.take i ++ [q] :=
  ⟨tn[i], List.getElem?_eq_getElem h, List.getElem_mem h, List.take_succ_eq_append_getElem h⟩
def wrA8 (L : List Pt8) (c box : List Int) : List Int := if wrE8 L c box = 0 then wrB8 L c box else []
/-- What 'Write' leaves. -/
def WrPost8 (L : List Pt8) (c box : List Int) (w : World) (e : Ending) (w' : World) : Prop := ∃ v, e = .returned (.tuple #[v, .int .i64 (wrE8 L c box)]) ∧ OwnB w' w.heap.size v (wrA8 L c box) ∧ Since w w'
theorem wrpost8 {L : List Pt8} {c box : List Int} {w w' : World} {v : Value} {E : Int} {X : List Int} (h1 : wrE8 L c box = E) (h2 : wrA8 L c box = X) (hO : OwnB w' w.heap.size v X) (hS : Since w w') : WrPost8 L c box w (.returned (.tuple #[v, .int .i64 E])) w' := by
  subst h1; subst h2; exact ⟨v, rfl, hO, hS⟩
theorem wr_no {L : List Pt8} {c box : List Int} (h : wrE8 L c box ≠ 0) : wrA8 L c box = [] := by unfold wrA8; rw [if_neg h]
theorem wr_yes {L : List Pt8} {c box : List Int} (h : wrE8 L c box = 0) : wrA8 L c box = wrB8 L c box := by unfold wrA8; rw [if_pos h]
theorem wrE_four (c box : List Int) : wrE8 [] c box = 4 := rfl
theorem wrE_seven {L : List Pt8} {c box : List Int} (h0 : L ≠ []) (h : 64 < L.length ∨ 65535 < c.length) : wrE8 L c box = 7 := by unfold wrE8; rw [if_neg h0, if_pos h]
theorem wrE_six {L : List Pt8} {c box : List Int} (h0 : L ≠ []) (h : ¬ (64 < L.length ∨ 65535 < c.length)) (h6 : ¬ ((∀ v ∈ box, Sh v) ∧ ∀ p ∈ L, P8Ok p)) : wrE8 L c box = 6 := by unfold wrE8; rw [if_neg h0, if_neg h, if_neg h6]
theorem wrE_ok {L : List Pt8} {c box : List Int} (h0 : L ≠ []) (h : ¬ (64 < L.length ∨ 65535 < c.length)) (h6 : (∀ v ∈ box, Sh v) ∧ ∀ p ∈ L, P8Ok p) : wrE8 L c box = 0 := by unfold wrE8; rw [if_neg h0, if_neg h, if_pos h6]
@[go_sem] theorem ixb0 (a b c d : Value) (w : World) : (Instr.index 42 (.agg #[a, b, c, d]) (.int .i64 0)).run Try.prog w = .ok a w := by kernel_rfl
@[go_sem] theorem ixb1 (a b c d : Value) (w : World) : (Instr.index 42 (.agg #[a, b, c, d]) (.int .i64 1)).run Try.prog w = .ok b w := by kernel_rfl
@[go_sem] theorem ixb2 (a b c d : Value) (w : World) : (Instr.index 42 (.agg #[a, b, c, d]) (.int .i64 2)).run Try.prog w = .ok c w := by kernel_rfl
@[go_sem] theorem ixb3 (a b c d : Value) (w : World) : (Instr.index 42 (.agg #[a, b, c, d]) (.int .i64 3)).run Try.prog w = .ok d w := by kernel_rfl
theorem sh_in {v : Int} (h : Sh v) : In64 v := by unfold Sh at h; unfold In64; omega
theorem p8_first (P : Pt8) (h : ¬ P8Ok P) : P.g < 0 ∨ (0 ≤ P.g ∧ 65535 < P.g) ∨ ((0 ≤ P.g ∧ P.g ≤ 65535) ∧ ¬ Sh P.x) ∨ ((0 ≤ P.g ∧ P.g ≤ 65535) ∧ Sh P.x ∧ ¬ Sh P.y) ∨ ((0 ≤ P.g ∧ P.g ≤ 65535) ∧ Sh P.x ∧ Sh P.y ∧ ¬ Sh P.m0) ∨ ((0 ≤ P.g ∧ P.g ≤ 65535) ∧ Sh P.x ∧ Sh P.y ∧ Sh P.m0 ∧ ¬ Sh P.m1) ∨ ((0 ≤ P.g ∧ P.g ≤ 65535) ∧ Sh P.x ∧ Sh P.y ∧ Sh P.m0 ∧ Sh P.m1 ∧ ¬ Sh P.m2) ∨ ((0 ≤ P.g ∧ P.g ≤ 65535) ∧ Sh P.x ∧ Sh P.y ∧ Sh P.m0 ∧ Sh P.m1 ∧ Sh P.m2 ∧ ¬ Sh P.m3) := by
  unfold P8Ok at h
  by_cases h1 : P.g < 0
  · exact .inl h1
  by_cases h2 : 65535 < P.g
  · exact .inr (.inl ⟨by omega, h2⟩)
  by_cases h3 : Sh P.x
  · by_cases h4 : Sh P.y
    · by_cases h5 : Sh P.m0
      · by_cases h6 : Sh P.m1
        · by_cases h7 : Sh P.m2
          · by_cases h8 : Sh P.m3
            · exact absurd ⟨⟨by omega, by omega⟩, h3, h4, h5, h6, h7, h8⟩ h
            · exact .inr (.inr (.inr (.inr (.inr (.inr (.inr ⟨⟨by omega, by omega⟩, h3, h4, h5, h6, h7, h8⟩))))))
          · exact .inr (.inr (.inr (.inr (.inr (.inr (.inl ⟨⟨by omega, by omega⟩, h3, h4, h5, h6, h7⟩))))))
        · exact .inr (.inr (.inr (.inr (.inr (.inl ⟨⟨by omega, by omega⟩, h3, h4, h5, h6⟩)))))
      · exact .inr (.inr (.inr (.inr (.inl ⟨⟨by omega, by omega⟩, h3, h4, h5⟩))))
    · exact .inr (.inr (.inr (.inl ⟨⟨by omega, by omega⟩, h3, h4⟩)))
  · exact .inr (.inr (.inl ⟨⟨by omega, by omega⟩, h3⟩))
theorem turn_rng (P : Pt8) : 0 ≤ turnF P ∧ turnF P ≤ 128 ∧ (turnN P).length ≤ 4 := by
  rcases turn_cases P with ⟨a, b⟩ | ⟨a, b, _⟩ | ⟨a, b, _⟩ | ⟨a, b, _⟩ <;> rw [a, b] <;> simp
theorem turn_in {P : Pt8} (h : P8Ok P) : ∀ v ∈ turnN P, In64 v := by
  obtain ⟨_, _, _, k0, k1, k2, k3⟩ := h
  intro v hv
  rcases turn_cases P with ⟨_, b⟩ | ⟨_, b, _⟩ | ⟨_, b, _⟩ | ⟨_, b, _⟩ <;> rw [b] at hv <;> simp only [List.mem_cons, List.not_mem_nil, or_false] at hv
  · rcases hv with rfl | rfl | rfl | rfl <;> exact sh_in (by assumption)
  · rcases hv with rfl | rfl <;> exact sh_in (by assumption)
  · subst hv; exact sh_in (by assumption)
theorem nums8_snoc (l : List Int) (x : Int) : nums8 (l ++ [x]) = nums8 l ++ putL x 2 := by simp [nums8]
theorem part8_le (P : Pt8) (t : Int) : (part8 P t).length ≤ 16 := by
  rw [part8_len]
  have h1 := (turn_rng P).2.2
  have h2 : wid8 P ≤ 2 := by unfold wid8; split <;> omega
  omega
theorem parts8_le (hc : Bool) : ∀ L : List Pt8, (parts8 hc L).length ≤ 16 * L.length
  | [] => by simp [parts8]
  | p :: r => by
    have h1 := parts8_le hc r
    have h2 := part8_le p (tail8 r hc)
    simp only [parts8, List.length_append, List.length_cons]; omega
theorem rf_short8' (v : Int) (r : Bool) (w : World) (hr : decide (Sh v) = r) : Calls Try.prog 28 #[.int .i64 v] w fun e w' => e = .returned (.bool r) ∧ w' = w := by
  subst hr; exact rf_short8 v w
/-- In the loop over the box. -/
def Bx8 (w : World) (box : List Int) (v y : Value) (wr : World) : Prop := ∃ k : Nat, k ≤ 4 ∧ y = .int .i64 (k : Int) ∧ OwnB wr w.heap.size v (putL (-1) 2 ++ nums8 (box.take k)) ∧ Since w wr ∧ ∀ x ∈ box.take k, Sh x
/-- In the loop over the parts. -/
def Pt8L (w : World) (X0 : List Int) (hc : Bool) (L : List Pt8) (v y : Value) (wx : World) : Prop :=
  ∃ (j : Nat) (X : List Int), j ≤ L.length ∧ y = .int .i64 (j : Int) ∧ OwnB wx w.heap.size v X ∧ Since w wx ∧ Hid (X ++ parts8 hc (L.drop j) = X0 ++ parts8 hc L) ∧ Hid (∀ p ∈ L.take j, P8Ok p) ∧ X.length ≤ 10 + 16 * j

set_option maxRecDepth 100000 in
set_option maxHeartbeats 8000000 in
theorem rf_write8 (A : Option Addr) (n c : Nat) (L : List Pt8) (B : Option Addr) (m d : Nat) (C : List Int) (lx ly mx my : Int) (w : World) (h : RdP8 w w.heap.size A L) (hn : n = L.length) (hC : RdB w w.heap.size B C) (hm : m = C.length) (hnn : L.length ≤ maxLen) (hmm : C.length ≤ 70368744177664) :
    Calls Try.prog 19 #[.slice A n c, .slice B m d, .agg #[.int .i64 lx, .int .i64 ly], .agg #[.int .i64 mx, .int .i64 my]] w (WrPost8 L C [lx, ly, mx, my] w) := by
  have hni : (n : Int) ≤ 9223372036854775807 := by subst hn; simp only [maxLen] at hnn; omega
  by_cases h0 : L = []
  · subst h0
    simp only [List.length_nil] at hn
    subst hn
    clear h hC
    go_enter Try.func19, Try.ntmps19
    go_wp2_with fail
    go_ret2
    exact wrpost8 (wrE_four _ _) (wr_no (by rw [wrE_four]; omega)) (OwnG.nil _ _ _ _ _) (by (repeat (first | with_reducible (exact Since.refl _) | with_reducible assumption | with_reducible (refine Since.drew ?_) | with_reducible (refine Since.drewN ?_ _) | with_reducible (refine Since.alloc ?_ _) | (with_reducible (refine Since.setCell ?_ ?_ _); rotate_left; focus (first | (simp; done) | (simp; omega) | omega)) | (with_reducible (refine Since.trans ?_ (by with_reducible assumption))))))
  have hn0 : 0 < n := by have := List.length_pos_iff.2 h0; omega
  have hn1 : ¬ (n : Int) = 0 := by omega
  have hn2 : ((n : Int) == 0) = false := by simpa using hn1
  by_cases h7 : 64 < L.length ∨ 65535 < C.length
  · have E7 := wrE_seven (box := [lx, ly, mx, my]) h0 h7
    have HE := Lib.hid E7
    rw [← hn, ← hm] at h7
    clear h hC E7 hn hm
    by_cases h8 : 64 < n
    · have d1 : decide ((64 : Int) < n) = true := by simp; omega
      clear h7
      go_enter Try.func19, Try.ntmps19
      go_wp2_with fail
      go_ret2
      exact wrpost8 HE.out (wr_no (by rw [HE.out]; omega)) (OwnG.nil _ _ _ _ _) (by (repeat (first | with_reducible (exact Since.refl _) | with_reducible assumption | with_reducible (refine Since.drew ?_) | with_reducible (refine Since.drewN ?_ _) | with_reducible (refine Since.alloc ?_ _) | (with_reducible (refine Since.setCell ?_ ?_ _); rotate_left; focus (first | (simp; done) | (simp; omega) | omega)) | (with_reducible (refine Since.trans ?_ (by with_reducible assumption))))))
    · have d1 : decide ((64 : Int) < n) = false := by simp; omega
      have d2 : decide ((65535 : Int) < m) = true := by simp; omega
      clear h7
      go_enter Try.func19, Try.ntmps19
      go_wp2_with fail
      go_ret2
      exact wrpost8 HE.out (wr_no (by rw [HE.out]; omega)) (OwnG.nil _ _ _ _ _) (by (repeat (first | with_reducible (exact Since.refl _) | with_reducible assumption | with_reducible (refine Since.drew ?_) | with_reducible (refine Since.drewN ?_ _) | with_reducible (refine Since.alloc ?_ _) | (with_reducible (refine Since.setCell ?_ ?_ _); rotate_left; focus (first | (simp; done) | (simp; omega) | omega)) | (with_reducible (refine Since.trans ?_ (by with_reducible assumption))))))
  have hn64 : n ≤ 64 := by omega
  have hm64 : m ≤ 65535 := by omega
  have d1 : decide ((64 : Int) < n) = false := by simp; omega
  have d2 : decide ((65535 : Int) < m) = false := by simp; omega
  have H0 := Lib.hid h0
  have H7 := Lib.hid h7
  have HN := Lib.hid hn
  have HMM := Lib.hid hm
  have HL := Lib.hid h
  have HC := Lib.hid hC
  clear h hC hn hm h0 h7 hnn hmm
  have tk1 := True.intro
  go_enter Try.func19, Try.ntmps19
  have hIN := sh_in (show Sh (-1) by unfold Sh; omega)
  go_wp2_with (go_at_call 26; (with_reducible refine (rput_o 2 _ _ _ hIN (by omega) (by omega)).mono ?_); rintro e w1 ⟨gp1, rfl, hg1, hO1, hp1⟩; have hS1 : Since w w1 := (by (repeat (first | with_reducible (exact Since.refl _) | with_reducible assumption | with_reducible (refine Since.drew ?_) | with_reducible (refine Since.drewN ?_ _) | with_reducible (refine Since.alloc ?_ _) | (with_reducible (refine Since.setCell ?_ ?_ _); rotate_left; focus (first | (simp; done) | (simp; omega) | omega)) | (with_reducible (refine Since.trans ?_ (by with_reducible assumption)))))); have hO1 := hO1.low (base' := w.heap.size) (by simp; omega); have k0 : w1.cell? ⟨w.heap.size, 0, none⟩ = some (.int .i64 lx) := (hp1.1 _ _ (by simp; omega)).trans (by simp [go_sem]); have k1 : w1.cell? ⟨w.heap.size, 1, none⟩ = some (.int .i64 ly) := (hp1.1 _ _ (by simp; omega)).trans (by simp [go_sem]); have k2 : w1.cell? ⟨w.heap.size + 1, 0, none⟩ = some (.int .i64 mx) := (hp1.1 _ _ (by simp)).trans (by simp [go_sem]); have k3 : w1.cell? ⟨w.heap.size + 1, 1, none⟩ = some (.int .i64 my) := (hp1.1 _ _ (by simp)).trans (by simp [go_sem]); have hz0 := hp1.2.2.1 w.heap.size (by simp; omega); have hz1 := hp1.2.2.1 (w.heap.size + 1) (by simp); clear hp1 hg1 tk1)
  have hS1' : Since w w1 := hS1
  go_loopw [10, 41] (fun v y wr => Bx8 w [lx, ly, mx, my] v y wr) (fun _ y _ => 4 - (intOf y).toNat)
  case atStart => exact ⟨0, by omega, rfl, by simpa [nums8] using hO1, hS1, by simp⟩
  case round =>
    obtain ⟨k, hk, rfl, hO0, hS0, hsh⟩ := hrel
    have HSH := Lib.hid hsh
    clear hsh hO1 hS1 hS1' k0 k1 k2 k3 hz0 hz1
    have hk' : k = 0 ∨ k = 1 ∨ k = 2 ∨ k = 3 ∨ k = 4 := by omega
    clear hk
    have tk1 := True.intro
    rcases hk' with rfl | rfl | rfl | rfl | rfl

    · by_cases hv : Sh lx
      · have hI := sh_in hv
        have HH := Lib.hid (rf_short8' lx true · (decide_eq_true hv))
        have hsn : [lx, ly, mx, my].take 1 = [lx, ly, mx, my].take 0 ++ [lx] := rfl
        have HSN := Lib.hid hsn
        have HX := Lib.hid (show putL (-1) 2 ++ nums8 ([lx, ly, mx, my].take 0) ++ putL lx 2 = putL (-1) 2 ++ nums8 ([lx, ly, mx, my].take 1) by rw [hsn, nums8_snoc, List.append_assoc])
        have hXl : (putL (-1) 2 ++ nums8 ([lx, ly, mx, my].take 0)).length ≤ 100 := by simp [putL_len, nums8_len]
        generalize hX0 : putL (-1) 2 ++ nums8 ([lx, ly, mx, my].take 0) = X0 at *
        have HV := Lib.hid hv
        clear hsn hv hX0
        go_wp2_with (first | (go_at_call 28; (with_reducible refine (HH.out _).mono ?_); rintro e w7 ⟨rfl, hw7⟩; have hw7' := hw7.symm; subst hw7'; clear hw7) | (go_at_call 26; have _t := tk1; (with_reducible refine (rput_l 2 _ _ _ hI (by omega) (by omega)).mono ?_); rintro e wp1 ⟨gp1, rfl, hg1, hr1, hp1⟩; have hSp1 := hS0.trans hp1; have hOp1 := hO0.since hp1; clear tk1 hp1 hg1; have ta1 := True.intro) | (at_builtin; have _t := ta1; refine wpList_append_b2 rfl _ _ rfl hSp1 _ (X0) rfl hOp1 _ (some ⟨gp1, 0, none⟩) 2 2 (putL _ 2) (putL_len _ _).symm rfl hr1 (by simp only [List.length_append, putL_len]; omega) ?_; intro v1 w1 hO1 hS1 hgr1; clear ta1 hr1 hSp1 hOp1 hgr1; have tk2 := True.intro))
        go_roundw
        case rel => exact ⟨1, by omega, rfl, own_app hO1 HX.out, hS1, by rw [HSN.out]; intro v hv2; rw [List.mem_append] at hv2; rcases hv2 with hv2 | hv2; (exact HSH.out v hv2); (simp only [List.mem_cons, List.not_mem_nil, or_false] at hv2; subst hv2; exact HV.out)⟩
        case measure => simp [intOf]
      · have HH := Lib.hid (rf_short8' lx false · (decide_eq_false hv))
        have HE := Lib.hid (wrE_six (box := [lx, ly, mx, my]) H0.out H7.out (fun e => hv (e.1 lx (by simp))))
        clear hv
        go_wp2_with (go_at_call 28; (with_reducible refine (HH.out _).mono ?_); rintro e w7 ⟨rfl, hw7⟩; have hw7' := hw7.symm; subst hw7'; clear hw7)
        go_ret2
        exact wrpost8 HE.out (wr_no (by rw [HE.out]; omega)) (OwnG.nil _ _ _ _ _) hS0

    · by_cases hv : Sh ly
      · have hI := sh_in hv
        have HH := Lib.hid (rf_short8' ly true · (decide_eq_true hv))
        have hsn : [lx, ly, mx, my].take 2 = [lx, ly, mx, my].take 1 ++ [ly] := rfl
        have HSN := Lib.hid hsn
        have HX := Lib.hid (show putL (-1) 2 ++ nums8 ([lx, ly, mx, my].take 1) ++ putL ly 2 = putL (-1) 2 ++ nums8 ([lx, ly, mx, my].take 2) by rw [hsn, nums8_snoc, List.append_assoc])
        have hXl : (putL (-1) 2 ++ nums8 ([lx, ly, mx, my].take 1)).length ≤ 100 := by simp [putL_len, nums8_len]
        generalize hX0 : putL (-1) 2 ++ nums8 ([lx, ly, mx, my].take 1) = X0 at *
        have HV := Lib.hid hv
        clear hsn hv hX0
        go_wp2_with (first | (go_at_call 28; (with_reducible refine (HH.out _).mono ?_); rintro e w7 ⟨rfl, hw7⟩; have hw7' := hw7.symm; subst hw7'; clear hw7) | (go_at_call 26; have _t := tk1; (with_reducible refine (rput_l 2 _ _ _ hI (by omega) (by omega)).mono ?_); rintro e wp1 ⟨gp1, rfl, hg1, hr1, hp1⟩; have hSp1 := hS0.trans hp1; have hOp1 := hO0.since hp1; clear tk1 hp1 hg1; have ta1 := True.intro) | (at_builtin; have _t := ta1; refine wpList_append_b2 rfl _ _ rfl hSp1 _ (X0) rfl hOp1 _ (some ⟨gp1, 0, none⟩) 2 2 (putL _ 2) (putL_len _ _).symm rfl hr1 (by simp only [List.length_append, putL_len]; omega) ?_; intro v1 w1 hO1 hS1 hgr1; clear ta1 hr1 hSp1 hOp1 hgr1; have tk2 := True.intro))
        go_roundw
        case rel => exact ⟨2, by omega, rfl, own_app hO1 HX.out, hS1, by rw [HSN.out]; intro v hv2; rw [List.mem_append] at hv2; rcases hv2 with hv2 | hv2; (exact HSH.out v hv2); (simp only [List.mem_cons, List.not_mem_nil, or_false] at hv2; subst hv2; exact HV.out)⟩
        case measure => simp [intOf]
      · have HH := Lib.hid (rf_short8' ly false · (decide_eq_false hv))
        have HE := Lib.hid (wrE_six (box := [lx, ly, mx, my]) H0.out H7.out (fun e => hv (e.1 ly (by simp))))
        clear hv
        go_wp2_with (go_at_call 28; (with_reducible refine (HH.out _).mono ?_); rintro e w7 ⟨rfl, hw7⟩; have hw7' := hw7.symm; subst hw7'; clear hw7)
        go_ret2
        exact wrpost8 HE.out (wr_no (by rw [HE.out]; omega)) (OwnG.nil _ _ _ _ _) hS0

    · by_cases hv : Sh mx
      · have hI := sh_in hv
        have HH := Lib.hid (rf_short8' mx true · (decide_eq_true hv))
        have hsn : [lx, ly, mx, my].take 3 = [lx, ly, mx, my].take 2 ++ [mx] := rfl
        have HSN := Lib.hid hsn
        have HX := Lib.hid (show putL (-1) 2 ++ nums8 ([lx, ly, mx, my].take 2) ++ putL mx 2 = putL (-1) 2 ++ nums8 ([lx, ly, mx, my].take 3) by rw [hsn, nums8_snoc, List.append_assoc])
        have hXl : (putL (-1) 2 ++ nums8 ([lx, ly, mx, my].take 2)).length ≤ 100 := by simp [putL_len, nums8_len]
        generalize hX0 : putL (-1) 2 ++ nums8 ([lx, ly, mx, my].take 2) = X0 at *
        have HV := Lib.hid hv
        clear hsn hv hX0
        go_wp2_with (first | (go_at_call 28; (with_reducible refine (HH.out _).mono ?_); rintro e w7 ⟨rfl, hw7⟩; have hw7' := hw7.symm; subst hw7'; clear hw7) | (go_at_call 26; have _t := tk1; (with_reducible refine (rput_l 2 _ _ _ hI (by omega) (by omega)).mono ?_); rintro e wp1 ⟨gp1, rfl, hg1, hr1, hp1⟩; have hSp1 := hS0.trans hp1; have hOp1 := hO0.since hp1; clear tk1 hp1 hg1; have ta1 := True.intro) | (at_builtin; have _t := ta1; refine wpList_append_b2 rfl _ _ rfl hSp1 _ (X0) rfl hOp1 _ (some ⟨gp1, 0, none⟩) 2 2 (putL _ 2) (putL_len _ _).symm rfl hr1 (by simp only [List.length_append, putL_len]; omega) ?_; intro v1 w1 hO1 hS1 hgr1; clear ta1 hr1 hSp1 hOp1 hgr1; have tk2 := True.intro))
        go_roundw
        case rel => exact ⟨3, by omega, rfl, own_app hO1 HX.out, hS1, by rw [HSN.out]; intro v hv2; rw [List.mem_append] at hv2; rcases hv2 with hv2 | hv2; (exact HSH.out v hv2); (simp only [List.mem_cons, List.not_mem_nil, or_false] at hv2; subst hv2; exact HV.out)⟩
        case measure => simp [intOf]
      · have HH := Lib.hid (rf_short8' mx false · (decide_eq_false hv))
        have HE := Lib.hid (wrE_six (box := [lx, ly, mx, my]) H0.out H7.out (fun e => hv (e.1 mx (by simp))))
        clear hv
        go_wp2_with (go_at_call 28; (with_reducible refine (HH.out _).mono ?_); rintro e w7 ⟨rfl, hw7⟩; have hw7' := hw7.symm; subst hw7'; clear hw7)
        go_ret2
        exact wrpost8 HE.out (wr_no (by rw [HE.out]; omega)) (OwnG.nil _ _ _ _ _) hS0

    · by_cases hv : Sh my
      · have hI := sh_in hv
        have HH := Lib.hid (rf_short8' my true · (decide_eq_true hv))
        have hsn : [lx, ly, mx, my].take 4 = [lx, ly, mx, my].take 3 ++ [my] := rfl
        have HSN := Lib.hid hsn
        have HX := Lib.hid (show putL (-1) 2 ++ nums8 ([lx, ly, mx, my].take 3) ++ putL my 2 = putL (-1) 2 ++ nums8 ([lx, ly, mx, my].take 4) by rw [hsn, nums8_snoc, List.append_assoc])
        have hXl : (putL (-1) 2 ++ nums8 ([lx, ly, mx, my].take 3)).length ≤ 100 := by simp [putL_len, nums8_len]
        generalize hX0 : putL (-1) 2 ++ nums8 ([lx, ly, mx, my].take 3) = X0 at *
        have HV := Lib.hid hv
        clear hsn hv hX0
        go_wp2_with (first | (go_at_call 28; (with_reducible refine (HH.out _).mono ?_); rintro e w7 ⟨rfl, hw7⟩; have hw7' := hw7.symm; subst hw7'; clear hw7) | (go_at_call 26; have _t := tk1; (with_reducible refine (rput_l 2 _ _ _ hI (by omega) (by omega)).mono ?_); rintro e wp1 ⟨gp1, rfl, hg1, hr1, hp1⟩; have hSp1 := hS0.trans hp1; have hOp1 := hO0.since hp1; clear tk1 hp1 hg1; have ta1 := True.intro) | (at_builtin; have _t := ta1; refine wpList_append_b2 rfl _ _ rfl hSp1 _ (X0) rfl hOp1 _ (some ⟨gp1, 0, none⟩) 2 2 (putL _ 2) (putL_len _ _).symm rfl hr1 (by simp only [List.length_append, putL_len]; omega) ?_; intro v1 w1 hO1 hS1 hgr1; clear ta1 hr1 hSp1 hOp1 hgr1; have tk2 := True.intro))
        go_roundw
        case rel => exact ⟨4, by omega, rfl, own_app hO1 HX.out, hS1, by rw [HSN.out]; intro v hv2; rw [List.mem_append] at hv2; rcases hv2 with hv2 | hv2; (exact HSH.out v hv2); (simp only [List.mem_cons, List.not_mem_nil, or_false] at hv2; subst hv2; exact HV.out)⟩
        case measure => simp [intOf]
      · have HH := Lib.hid (rf_short8' my false · (decide_eq_false hv))
        have HE := Lib.hid (wrE_six (box := [lx, ly, mx, my]) H0.out H7.out (fun e => hv (e.1 my (by simp))))
        clear hv
        go_wp2_with (go_at_call 28; (with_reducible refine (HH.out _).mono ?_); rintro e w7 ⟨rfl, hw7⟩; have hw7' := hw7.symm; subst hw7'; clear hw7)
        go_ret2
        exact wrpost8 HE.out (wr_no (by rw [HE.out]; omega)) (OwnG.nil _ _ _ _ _) hS0

    · rw [show ((4 : Nat) : Int) = 4 from rfl]
      go_wp2_with fail
      obtain ⟨hc, hhc⟩ : ∃ hc, hc = !C.isEmpty := ⟨_, rfl⟩
      have HHC := Lib.hid hhc
      have hX0 : OwnB wr w.heap.size _ (putL (-1) 2 ++ nums8 [lx, ly, mx, my]) := hO0
      obtain ⟨X0, hX⟩ : ∃ X0, X0 = putL (-1) 2 ++ nums8 [lx, ly, mx, my] := ⟨_, rfl⟩
      have hXl : X0.length = 10 := by rw [hX]; simp [putL_len, nums8_len]
      rw [← hX] at hX0
      have HX := Lib.hid hX
      have HXL := Lib.hid hXl
      clear hX hhc hO0 hXl
      go_loopw [10, 54] (fun v y wx => Pt8L w X0 hc L v y wx) (fun _ y _ => n - (intOf y).toNat)
      case atStart => exact ⟨0, X0, by omega, rfl, hX0, hS0, Lib.hid rfl, Lib.hid (by simp), by rw [HXL.out]; omega⟩
      case round =>
        obtain ⟨j, X, hj, rfl, hO0, hS0, HG, HOK, hXl⟩ := hrel
        rw [← HN.out] at hj
        clear hX0
        by_cases hjn : j < n
        · have hjn' : (j : Int) < n := by omega
          have hjL : j < L.length := by rw [← HN.out]; exact hjn
          have hP : L[j]? = some L[j] := List.getElem?_eq_getElem hjL
          have hdr : L.drop j = L[j] :: L.drop (j + 1) := List.drop_eq_getElem_cons hjL
          have htk : L.take (j + 1) = L.take j ++ [L[j]] := List.take_succ_eq_append_getElem hjL
          have hmem : L[j] ∈ L := List.getElem_mem hjL
          obtain ⟨bL, oL, rfl, hbL, hcL⟩ := (HL.out.keep (fun b o hb => hS0.1 b o hb)) (by omega)
          have hcj := hcL j _ hP
          have hbw := hS0.2.2.1 _ hbL
          generalize hPP : L[j] = P at *
          have HDR := Lib.hid hdr
          have HTK := Lib.hid htk
          have HME := Lib.hid hmem
          clear hdr htk hP hcL hPP hmem hjL
          have hcj' : ∀ i, i < 7 → wr.cell? ⟨bL, oL + j * 7 + i, none⟩ = some ((ptV P).getD i undef) := hcj
          clear hcj
          obtain ⟨g, x, y, a0, a1, a2, a3⟩ := P
          have q0 : wr.cell? ⟨bL, oL + j * 7, none⟩ = some (.int .i64 g) := hcj' 0 (by omega)
          have q1 : wr.cell? ⟨bL, oL + j * 7 + 1, none⟩ = some (.int .i64 x) := hcj' 1 (by omega)
          have q2 : wr.cell? ⟨bL, oL + j * 7 + 2, none⟩ = some (.int .i64 y) := hcj' 2 (by omega)
          have q3 : wr.cell? ⟨bL, oL + j * 7 + 3, none⟩ = some (.int .i64 a0) := hcj' 3 (by omega)
          have q4 : wr.cell? ⟨bL, oL + j * 7 + 4, none⟩ = some (.int .i64 a1) := hcj' 4 (by omega)
          have q5 : wr.cell? ⟨bL, oL + j * 7 + 5, none⟩ = some (.int .i64 a2) := hcj' 5 (by omega)
          have q6 : wr.cell? ⟨bL, oL + j * 7 + 6, none⟩ = some (.int .i64 a3) := hcj' 6 (by omega)
          clear hcj'
          go_upto_region 16 with fail
          obtain ⟨b, hb⟩ : ∃ b, b = wr.heap.size := ⟨_, rfl⟩
          refine wp_named fun wa hwa => ?_
          rw [← hb]
          have hBa : OneP wa w.heap.size b ⟨g, x, y, a0, a1, a2, a3⟩ := by rw [hwa]; exact oneP_new wr _ b hb hS0.below.size _ _ _ _ _ _ _
          have hSa : Since w wa := by rw [hwa]; exact hS0.alloc _
          have hOa := hO0.alloc (.cells #[.int .i64 g, .int .i64 x, .int .i64 y, .int .i64 a0, .int .i64 a1, .int .i64 a2, .int .i64 a3] 44)
          rw [← hwa] at hOa
          clear hwa hb q0 q1 q2 q3 q4 q5 q6 hO0 hS0 hbw
          obtain ⟨g0, g1, g2, g3, g4, g5, g6⟩ := oneP_cells hBa
          simp only at g0 g1 g2 g3 g4 g5 g6
          go_cut [106] (fun z wx => z = .bool (!decide (P8Ok ⟨g, x, y, a0, a1, a2, a3⟩)) ∧ wx = wa)
          case first =>
            by_cases hok : P8Ok ⟨g, x, y, a0, a1, a2, a3⟩
            · have E9 := Lib.hid (decide_eq_true hok)
              unfold P8Ok at hok
              obtain ⟨⟨s0, s0'⟩, s1, s2, s3, s4, s5, s6⟩ := hok
              simp only at s0 s0' s1 s2 s3 s4 s5 s6
              have z0 : decide (g < 0) = false := by simp; omega
              have z1 : decide (65535 < g) = false := by simp; omega
              go_wp2_with (go_at_call 28; (with_reducible refine (rf_short8 _ _).mono ?_); rintro e w7 ⟨rfl, hw7⟩; have hw7' := hw7.symm; subst hw7'; clear hw7)
              go_meet
              rw [E9.out]
              exact ⟨rfl, rfl⟩
            · have E9 := Lib.hid (decide_eq_false hok)
              have hf := p8_first _ hok
              simp only at hf
              clear hok
              rcases hf with s0 | ⟨s0, s1⟩ | ⟨⟨s0, s0'⟩, s1⟩ | ⟨⟨s0, s0'⟩, s1, s2⟩ | ⟨⟨s0, s0'⟩, s1, s2, s3⟩ | ⟨⟨s0, s0'⟩, s1, s2, s3, s4⟩ | ⟨⟨s0, s0'⟩, s1, s2, s3, s4, s5⟩ | ⟨⟨s0, s0'⟩, s1, s2, s3, s4, s5, s6⟩
              all_goals
                try have z0 : decide (g < 0) = false := by simp; omega
                try have z1 : decide (65535 < g) = false := by simp; omega
                go_wp2_with (go_at_call 28; (with_reducible refine (rf_short8 _ _).mono ?_); rintro e w7 ⟨rfl, hw7⟩; have hw7' := hw7.symm; subst hw7'; clear hw7)
                go_meet
                rw [E9.out]
                exact ⟨rfl, rfl⟩
          obtain ⟨rfl, hw9⟩ := hcut
          have hw8 := hw9.symm
          subst hw8
          clear hw9
          obtain ⟨bq, hbq⟩ : ∃ bq, bq = !decide (P8Ok ⟨g, x, y, a0, a1, a2, a3⟩) := ⟨_, rfl⟩
          rw [← hbq]
          cases bq with
          | false =>
            have hok : P8Ok ⟨g, x, y, a0, a1, a2, a3⟩ := by simpa using hbq.symm
            clear hbq
            have hIg : In64 g := by have := hok.1; simp only at this; unfold In64; omega
            have hIx := sh_in hok.2.1
            have hIy := sh_in hok.2.2.1
            have htin := turn_in hok
            have HOKP := Lib.hid hok
            have HTIN := Lib.hid htin
            have hT := turn_rng ⟨g, x, y, a0, a1, a2, a3⟩
            have hTC := fun w2 => rf_turn ⟨g, x, y, a0, a1, a2, a3⟩ w2
            simp only at hTC
            obtain ⟨tf, htf⟩ : ∃ tf, tf = turnF ⟨g, x, y, a0, a1, a2, a3⟩ := ⟨_, rfl⟩
            obtain ⟨tn, htn⟩ : ∃ tn, tn = turnN ⟨g, x, y, a0, a1, a2, a3⟩ := ⟨_, rfl⟩
            rw [← htf, ← htn] at hT
            rw [← htf, ← htn] at hTC
            rw [← htn] at HTIN
            have HTF := Lib.hid htf
            have HTNN := Lib.hid htn
            have HTC := Lib.hid hTC
            obtain ⟨t0, t1, t2⟩ := hT
            clear htin htf htn hTC hok
            go_upto_region 21 with (go_at_call 29; (with_reducible refine (HTC.out _).mono ?_); rintro e w2 ⟨tv, rfl, hT0, hSt⟩; have hT0 := hT0.low hSa.below.size; have hS0 := hSa.trans hSt; have hO0 := hOa.since hSt; have hB0 := hBa.since hSt; clear g0 g1 g2 g3 g4 g5 g6 hOa hBa hSa hSt; obtain ⟨g0, g1, g2, g3, g4, g5, g6⟩ := oneP_cells hB0; simp only at g0 g1 g2 g3 g4 g5 g6)
            go_cut [132] (fun z wx => z = .bool (decide (Wide8 ⟨g, x, y, a0, a1, a2, a3⟩)) ∧ wx = w2)
            case first =>
              have hw8 : x < -128 ∨ (-128 ≤ x ∧ 127 < x) ∨ ((-128 ≤ x ∧ x ≤ 127) ∧ y < -128) ∨ ((-128 ≤ x ∧ x ≤ 127) ∧ -128 ≤ y ∧ 127 < y) ∨ ((-128 ≤ x ∧ x ≤ 127) ∧ -128 ≤ y ∧ y ≤ 127) := by omega
              rcases hw8 with s0 | ⟨s0, s1⟩ | ⟨⟨s0, s1⟩, s2⟩ | ⟨⟨s0, s1⟩, s2, s3⟩ | ⟨⟨s0, s1⟩, s2, s3⟩
              all_goals
                first | have E9 := Lib.hid (show decide (Wide8 ⟨g, x, y, a0, a1, a2, a3⟩) = true from decide_eq_true (by unfold Wide8; simp only; omega)) | have E9 := Lib.hid (show decide (Wide8 ⟨g, x, y, a0, a1, a2, a3⟩) = false from decide_eq_false (by unfold Wide8; simp only; omega))
                go_wp2_with fail
                go_meet
                rw [E9.out]
                exact ⟨by first | rfl | (congr 1; simp only [Bool.or_eq_false_iff, decide_eq_false_iff_not]; omega), rfl⟩
            obtain ⟨rfl, hw9⟩ := hcut
            have hw8 := hw9.symm
            subst hw8
            clear hw9
            go_upto_if 132 with fail
            go_cut [15, 17] (fun f wd wx => f = .int .i64 (tf + 2 + (if Wide8 ⟨g, x, y, a0, a1, a2, a3⟩ then 1 else 0)) ∧ wd = .int .i64 (wid8 ⟨g, x, y, a0, a1, a2, a3⟩) ∧ wx = w2)
            case first =>
              by_cases hwd : Wide8 ⟨g, x, y, a0, a1, a2, a3⟩
              · have e1 := decide_eq_true hwd
                have E2 := Lib.hid (show wid8 ⟨g, x, y, a0, a1, a2, a3⟩ = 2 by unfold wid8; rw [if_pos hwd])
                go_wp2_with fail
                go_meet
                rw [E2.out, if_pos hwd]
                exact ⟨rfl, rfl, rfl⟩
              · have e1 := decide_eq_false hwd
                have E2 := Lib.hid (show wid8 ⟨g, x, y, a0, a1, a2, a3⟩ = 1 by unfold wid8; rw [if_neg hwd])
                go_wp2_with fail
                go_meet
                rw [E2.out, if_neg hwd]
                exact ⟨by simp, rfl, rfl⟩
            obtain ⟨rfl, rfl, hw9⟩ := hcut
            have hw8 := hw9.symm
            subst hw8
            clear hw9
            obtain ⟨ww, hww⟩ : ∃ ww : Int, ww = if Wide8 ⟨g, x, y, a0, a1, a2, a3⟩ then 1 else 0 := ⟨_, rfl⟩
            obtain ⟨wd, hwd⟩ : ∃ wd : Nat, wd = wid8 ⟨g, x, y, a0, a1, a2, a3⟩ := ⟨_, rfl⟩
            rw [← hww, ← hwd]
            have hwb : 0 ≤ ww ∧ ww ≤ 1 := by rw [hww]; split <;> omega
            have hwdb : 1 ≤ wd ∧ wd ≤ 2 := by rw [hwd]; unfold wid8; split <;> omega
            have HWW := Lib.hid hww
            have HWD := Lib.hid hwd
            obtain ⟨t, ht⟩ : ∃ t : Int, t = tail8 (L.drop (j + 1)) hc := ⟨_, rfl⟩
            have HT := Lib.hid ht
            have htb : 0 ≤ t ∧ t ≤ 256 := by rcases tail8_or (L.drop (j + 1)) hc with e | e | e <;> rw [← ht] at e <;> omega
            clear hww hwd ht
            go_upto_if 139 with fail
            go_cut [15] (fun z wx => z = .int .i64 (tf + 2 + ww + t) ∧ wx = w2)
            case first =>
              by_cases hl : j + 1 < n
              · have e1 : (j : Int) < (n : Int) - 1 := by omega
                have E2 := Lib.hid (show t = 32 by
                  rw [HT.out]; unfold tail8; rw [if_neg]
                  intro e
                  have := congrArg List.length e
                  rw [List.length_drop, ← HN.out] at this
                  simp at this; omega)
                go_wp2_with fail
                go_meet
                rw [E2.out]
                exact ⟨rfl, rfl⟩
              · have e1 : ¬ (j : Int) < (n : Int) - 1 := by omega
                have hdn : L.drop (j + 1) = [] := by rw [List.drop_eq_nil_iff, ← HN.out]; omega
                by_cases hm0 : 0 < m
                · have E2 := Lib.hid (show t = 256 by
                    rw [HT.out, hdn]; unfold tail8
                    have : hc = true := by rw [HHC.out]; exact emp_yes (by rw [← HMM.out]; exact hm0)
                    rw [this]; rfl)
                  have e2 : (0 : Int) < (m : Int) := by omega
                  clear hdn
                  go_wp2_with fail
                  go_meet
                  rw [E2.out]
                  exact ⟨rfl, rfl⟩
                · have E2 := Lib.hid (show t = 0 by
                    rw [HT.out, hdn]; unfold tail8
                    have : hc = false := by rw [HHC.out]; exact emp_no (by rw [← HMM.out]; omega)
                    rw [this]; rfl)
                  have e2 : ¬ (0 : Int) < (m : Int) := by omega
                  clear hdn
                  go_wp2_with fail
                  go_meet
                  rw [E2.out]
                  exact ⟨by simp, rfl⟩
            obtain ⟨rfl, hw9⟩ := hcut
            have hw8 := hw9.symm
            subst hw8
            clear hw9
            have hIf : In64 (tf + 2 + ww + t) := by unfold In64; omega
            obtain ⟨fl, hfl⟩ : ∃ fl, fl = tf + 2 + ww + t := ⟨_, rfl⟩
            rw [← hfl] at hIf ⊢
            have HFL := Lib.hid hfl
            clear hfl htb hwb
            have hj64 : j < 64 := by omega
            obtain ⟨X4, hX4⟩ : ∃ X4, X4 = (((X ++ putL fl 2) ++ putL g 2) ++ putL x wd) ++ putL y wd := ⟨_, rfl⟩
            have hX4l : X4.length ≤ X.length + 8 := by rw [hX4]; simp only [List.length_append, putL_len]; omega
            have HX4 := Lib.hid hX4
            clear hX4
            obtain ⟨tA, tc, rfl, htc, _⟩ := hT0.rd (by omega) inL_len
            go_wp2_with (first | (go_at_call 26; have _t := tk1; (with_reducible refine (rput_l 2 _ _ _ hIf (by omega) (by omega)).mono ?_); rintro e wp1 ⟨gp1, rfl, hg1, hr1, hp1⟩; have hSp1 := hS0.trans hp1; have hOp1 := hO0.since hp1; have hBp1 := hB0.since hp1; have hTp1 := hT0.since hp1; clear g0 g1 g2 g3 g4 g5 g6; obtain ⟨g0, g1, g2, g3, g4, g5, g6⟩ := oneP_cells hBp1; simp only at g0 g1 g2 g3 g4 g5 g6; clear tk1 hp1 hg1; have ta1 := True.intro) | (at_builtin; have _t := ta1; refine wpList_append_b2 rfl _ _ rfl hSp1 _ (X) rfl hOp1 _ (some ⟨gp1, 0, none⟩) 2 2 (putL _ 2) (putL_len _ _).symm rfl hr1 (by simp only [List.length_append, putL_len]; omega) ?_; intro v1 w1 hO1 hS1 hgr1; have hB1 := OneP.grow hBp1 hOp1 hgr1; have hT1 := OwnG.growI hTp1 hOp1 hgr1; clear g0 g1 g2 g3 g4 g5 g6; obtain ⟨g0, g1, g2, g3, g4, g5, g6⟩ := oneP_cells hB1; simp only at g0 g1 g2 g3 g4 g5 g6; clear ta1 hr1 hSp1 hOp1 hgr1 hBp1 hTp1; have tk2 := True.intro) | (go_at_call 26; have _t := tk2; (with_reducible refine (rput_l 2 _ _ _ hIg (by omega) (by omega)).mono ?_); rintro e wp2 ⟨gp2, rfl, hg2, hr2, hp2⟩; have hSp2 := hS1.trans hp2; have hOp2 := hO1.since hp2; have hBp2 := hB1.since hp2; have hTp2 := hT1.since hp2; clear g0 g1 g2 g3 g4 g5 g6; obtain ⟨g0, g1, g2, g3, g4, g5, g6⟩ := oneP_cells hBp2; simp only at g0 g1 g2 g3 g4 g5 g6; clear tk2 hp2 hg2; have ta2 := True.intro) | (at_builtin; have _t := ta2; refine wpList_append_b2 rfl _ _ rfl hSp2 _ (X ++ putL fl 2) rfl hOp2 _ (some ⟨gp2, 0, none⟩) 2 2 (putL _ 2) (putL_len _ _).symm rfl hr2 (by simp only [List.length_append, putL_len]; omega) ?_; intro v2 w2 hO2 hS2 hgr2; have hB2 := OneP.grow hBp2 hOp2 hgr2; have hT2 := OwnG.growI hTp2 hOp2 hgr2; clear g0 g1 g2 g3 g4 g5 g6; obtain ⟨g0, g1, g2, g3, g4, g5, g6⟩ := oneP_cells hB2; simp only at g0 g1 g2 g3 g4 g5 g6; clear ta2 hr2 hSp2 hOp2 hgr2 hBp2 hTp2; have tk3 := True.intro) | (go_at_call 26; have _t := tk3; (with_reducible refine (rput_l wd _ _ _ hIx (by omega) (by omega)).mono ?_); rintro e wp3 ⟨gp3, rfl, hg3, hr3, hp3⟩; have hSp3 := hS2.trans hp3; have hOp3 := hO2.since hp3; have hBp3 := hB2.since hp3; have hTp3 := hT2.since hp3; clear g0 g1 g2 g3 g4 g5 g6; obtain ⟨g0, g1, g2, g3, g4, g5, g6⟩ := oneP_cells hBp3; simp only at g0 g1 g2 g3 g4 g5 g6; clear tk3 hp3 hg3; have ta3 := True.intro) | (at_builtin; have _t := ta3; refine wpList_append_b2 rfl _ _ rfl hSp3 _ ((X ++ putL fl 2) ++ putL g 2) rfl hOp3 _ (some ⟨gp3, 0, none⟩) wd wd (putL _ wd) (putL_len _ _).symm rfl hr3 (by simp only [List.length_append, putL_len]; omega) ?_; intro v3 w3 hO3 hS3 hgr3; have hB3 := OneP.grow hBp3 hOp3 hgr3; have hT3 := OwnG.growI hTp3 hOp3 hgr3; clear g0 g1 g2 g3 g4 g5 g6; obtain ⟨g0, g1, g2, g3, g4, g5, g6⟩ := oneP_cells hB3; simp only at g0 g1 g2 g3 g4 g5 g6; clear ta3 hr3 hSp3 hOp3 hgr3 hBp3 hTp3; have tk4 := True.intro) | (go_at_call 26; have _t := tk4; (with_reducible refine (rput_l wd _ _ _ hIy (by omega) (by omega)).mono ?_); rintro e wp4 ⟨gp4, rfl, hg4, hr4, hp4⟩; have hSp4 := hS3.trans hp4; have hOp4 := hO3.since hp4; have hBp4 := hB3.since hp4; have hTp4 := hT3.since hp4; clear g0 g1 g2 g3 g4 g5 g6; obtain ⟨g0, g1, g2, g3, g4, g5, g6⟩ := oneP_cells hBp4; simp only at g0 g1 g2 g3 g4 g5 g6; clear tk4 hp4 hg4; have ta4 := True.intro) | (at_builtin; have _t := ta4; refine wpList_append_b2 rfl _ _ rfl hSp4 _ (((X ++ putL fl 2) ++ putL g 2) ++ putL x wd) rfl hOp4 _ (some ⟨gp4, 0, none⟩) wd wd (putL _ wd) (putL_len _ _).symm rfl hr4 (by simp only [List.length_append, putL_len]; omega) ?_; intro v4 w4 hO4 hS4 hgr4; have hB4 := OneP.grow hBp4 hOp4 hgr4; have hT4 := OwnG.growI hTp4 hOp4 hgr4; clear g0 g1 g2 g3 g4 g5 g6; obtain ⟨g0, g1, g2, g3, g4, g5, g6⟩ := oneP_cells hB4; simp only at g0 g1 g2 g3 g4 g5 g6; clear ta4 hr4 hSp4 hOp4 hgr4 hBp4 hTp4; have tk5 := True.intro))
            have hO4' := own_app hO4 HX4.out.symm
            clear hO0 hO1 hO2 hO3 hO4 hB0 hB1 hB2 hB3 hB4 hT0 hT1 hT2 hT3 hS0 hS1 hS2 hS3 g0 g1 g2 g3 g4 g5 g6 hIf hIg hIx hIy
            go_loopw [10, 170] (fun v y wx => Tn8 w (.slice tA tn.length tc) tn X4 v y wx) (fun _ y _ => tn.length - (intOf y).toNat)
            case atStart => exact ⟨0, by omega, rfl, by simpa [nums8] using hO4', hS4, hT4, by simp [nums8]⟩
            case round =>
              obtain ⟨i, hi, rfl, hO0, hS0, hT0, hXi⟩ := hrel
              clear hO4' hS4 hT4
              by_cases hit : i < tn.length
              · have hit' : (i : Int) < (tn.length : Int) := by omega
                obtain ⟨_, _, eT, _, hrt⟩ := hT0.rd (by omega) inL_len
                injection eT with eT1 eT2 eT3
                subst eT1
                obtain ⟨bt, ot, rfl, hbt, hct⟩ := hrt (by omega)
                obtain ⟨q, hq, hmq, htk⟩ := tn_step hit
                have hcq0 := hct i q hq 0 (by omega)
                rw [Nat.mul_one, Nat.add_zero] at hcq0
                have hcq : wr.cell? ⟨bt, ot + i, none⟩ = some (.int .i64 q) := hcq0
                clear hcq0
                have hIq := HTIN.out q hmq
                have tk1 := True.intro
                have HX5 := Lib.hid (show (X4 ++ nums8 (tn.take i)) ++ putL q 2 = X4 ++ nums8 (tn.take (i + 1)) by rw [htk, nums8_snoc, List.append_assoc])
                clear hct hrt hq htk eT2 eT3 hmq
                obtain ⟨XX, hXX⟩ : ∃ XX, XX = X4 ++ nums8 (tn.take i) := ⟨_, rfl⟩
                rw [← hXX] at hO0 hXi HX5
                clear hXX
                go_wp2_with (first | (go_at_call 26; have _t := tk1; (with_reducible refine (rput_l 2 _ _ _ hIq (by omega) (by omega)).mono ?_); rintro e wp1 ⟨gp1, rfl, hg1, hr1, hp1⟩; have hSp1 := hS0.trans hp1; have hOp1 := hO0.since hp1; have hTp1 := hT0.since hp1; clear tk1 hp1 hg1; have ta1 := True.intro) | (at_builtin; have _t := ta1; refine wpList_append_b2 rfl _ _ rfl hSp1 _ (XX) rfl hOp1 _ (some ⟨gp1, 0, none⟩) 2 2 (putL _ 2) (putL_len _ _).symm rfl hr1 (by simp only [List.length_append, putL_len]; omega) ?_; intro v1 w1 hO1 hS1 hgr1; have hT1 := OwnG.growI hTp1 hOp1 hgr1; clear ta1 hr1 hSp1 hOp1 hgr1 hTp1; have tk2 := True.intro))
                go_roundw
                case rel => exact ⟨i + 1, by omega, by go_num, own_app hO1 HX5.out, hS1, hT1, by rw [← HX5.out, List.length_append, putL_len]; omega⟩
                case measure => simp [intOf]; omega
              · obtain rfl : i = tn.length := by omega
                have hXt : X4 ++ nums8 (tn.take tn.length) = X4 ++ nums8 tn := by rw [List.take_length]
                rw [hXt] at hO0 hXi
                clear hXt
                go_wp2_with fail
                go_roundw
                case rel =>
                  refine ⟨j + 1, X4 ++ nums8 tn, by rw [← HN.out]; omega, by go_num, hO0, hS0, Lib.hid ?_, Lib.hid ?_, by omega⟩
                  · rw [← HG.out, HDR.out]
                    rw [parts8_cons]
                    unfold part8
                    rw [← HT.out, ← HWD.out, ← HTNN.out, HX4.out, show flag8 ⟨g, x, y, a0, a1, a2, a3⟩ t = fl by unfold flag8; rw [← HTF.out, ← HWW.out, HFL.out]]
                    simp only [List.append_assoc]
                  · rw [HTK.out]
                    intro p hp
                    rw [List.mem_append] at hp
                    rcases hp with hp | hp
                    · exact HOK.out p hp
                    · simp only [List.mem_cons, List.not_mem_nil, or_false] at hp
                      subst hp
                      exact HOKP.out
                case measure => simp [intOf]; omega
          | true =>
            have hok : ¬ P8Ok ⟨g, x, y, a0, a1, a2, a3⟩ := by simpa using hbq.symm
            have HE := Lib.hid (wrE_six (box := [lx, ly, mx, my]) H0.out H7.out (fun e => hok (e.2 _ HME.out)))
            go_wp2_with fail
            go_ret2
            exact wrpost8 HE.out (wr_no (by rw [HE.out]; omega)) (OwnG.nil _ _ _ _ _) hSa
        · obtain rfl : j = n := by omega
          have hdn : L.drop j = [] := by rw [List.drop_eq_nil_iff, ← HN.out]; omega
          have htn : L.take j = L := by rw [HN.out]; exact List.take_length
          have hXe : X = X0 ++ parts8 hc L := by have := HG.out; rw [hdn] at this; simpa [parts8] using this
          have hall : ∀ p ∈ L, P8Ok p := by have := HOK.out; rw [htn] at this; exact this
          have E0 := wrE_ok (box := [lx, ly, mx, my]) H0.out H7.out ⟨HSH.out, hall⟩
          have hBB : wrB8 L C [lx, ly, mx, my] = X ++ code8 C := by
            unfold wrB8; rw [hXe, HX.out, HHC.out]; simp only [List.append_assoc]
          have HE := Lib.hid E0
          have HA := Lib.hid ((wr_yes E0).trans hBB)
          clear hdn htn hXe hall E0 hBB
          by_cases hm0 : 0 < m
          · have e2 : (0 : Int) < (m : Int) := by omega
            have hIm : In64 (m : Int) := by unfold In64; omega
            have hCl : C.length ≤ 65535 := by rw [← HMM.out]; exact hm64
            have HCC := Lib.hid (show code8 C = putL (m : Int) 2 ++ C by unfold code8; rw [if_neg (by intro e; rw [HMM.out, e] at hm0; simp at hm0), HMM.out])
            go_wp2_with (first | (go_at_call 26; have _t := tk1; (with_reducible refine (rput_l 2 _ _ _ hIm (by omega) (by omega)).mono ?_); rintro e wp1 ⟨gp1, rfl, hg1, hr1, hp1⟩; have hSp1 := hS0.trans hp1; have hOp1 := hO0.since hp1; clear tk1 hp1 hg1; have ta1 := True.intro) | (at_builtin; have _t := ta1; refine wpList_append_b2 rfl _ _ rfl hSp1 _ (X) rfl hOp1 _ (some ⟨gp1, 0, none⟩) 2 2 (putL _ 2) (putL_len _ _).symm rfl hr1 (by simp only [List.length_append, putL_len]; omega) ?_; intro v1 w1 hO1 hS1 hgr1; clear ta1 hr1 hSp1 hOp1 hgr1; have tk2 := True.intro) | (at_builtin; have _t := tk2; refine wpList_append_b2 rfl _ _ rfl hS1 _ (X ++ putL (m : Int) 2) rfl hO1 _ B m d C HMM.out rfl (HC.out.on hS1) (by simp only [List.length_append, putL_len]; omega) ?_; intro v9 w9 hO9 hS9 hgr9; clear tk2))
            go_ret2
            exact wrpost8 HE.out (HA.out.trans (by rw [HCC.out])) (own_app hO9 (by rw [List.append_assoc])) hS9
          · have e2 : ¬ (0 : Int) < (m : Int) := by omega
            have HCC := Lib.hid (show code8 C = [] by unfold code8; rw [if_pos]; exact List.length_eq_zero_iff.1 (by rw [← HMM.out]; omega))
            go_wp2_with fail
            go_ret2
            exact wrpost8 HE.out (HA.out.trans (by rw [HCC.out, List.append_nil])) hO0 hS0
end Go.Proofs.Ytcjjcjpkmjbfkaa
