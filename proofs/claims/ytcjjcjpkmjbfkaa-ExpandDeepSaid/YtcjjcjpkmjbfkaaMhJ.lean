/-
  Texts of this seat, put together: each with its own head.
-/
import Derived.Test.YtcjjcjpkmjbfkaaMhF
import Derived.Test.YtcjjcjpkmjbfkaaMhG

/-
  Layer 7: writeKnots, walked.
-/
namespace Go.Proofs.Ytcjjcjpkmjbfkaa
open Go.RowKit Go.ChangeShapes Go.WideShapes Go.Deep
set_option linter.unusedVariables false
set_option linter.unusedSimpArgs false

end Go.Proofs.Ytcjjcjpkmjbfkaa

/-
  Layer 7: Write, walked.
-/
namespace Go.Proofs.Ytcjjcjpkmjbfkaa
open Go.RowKit Go.ChangeShapes Go.WideShapes Go.Deep
set_option linter.unusedVariables false
set_option linter.unusedSimpArgs false

@[go_sem] theorem ix7_0 (a b c d : Value) (w : World) : (Instr.index 42 (.agg #[a, b, c, d]) (.int .i64 0)).run Try.prog w = .ok a w := by kernel_rfl
@[go_sem] theorem ix7_1 (a b c d : Value) (w : World) : (Instr.index 42 (.agg #[a, b, c, d]) (.int .i64 1)).run Try.prog w = .ok b w := by kernel_rfl
@[go_sem] theorem ix7_2 (a b c d : Value) (w : World) : (Instr.index 42 (.agg #[a, b, c, d]) (.int .i64 2)).run Try.prog w = .ok c w := by kernel_rfl
@[go_sem] theorem ix7_3 (a b c d : Value) (w : World) : (Instr.index 42 (.agg #[a, b, c, d]) (.int .i64 3)).run Try.prog w = .ok d w := by kernel_rfl
theorem nums8_snoc (l : List Int) (x : Int) : nums8 (l ++ [x]) = nums8 l ++ putL x 2 := by unfold nums8; simp
def lsK (LL : List (List Kt)) : List Nat := LL.map List.length
/-- The bytes of a glyph, and why it can't be written. -/
def glE (LL : List (List Kt)) (C : List Int) : Int := wrE7 (lsK LL) C (xsK LL.flatten) (ysK LL.flatten)
def boxK (LL : List (List Kt)) : List Int := box7 (xsK LL.flatten) (ysK LL.flatten)
def glB (LL : List (List Kt)) (C : List Int) : List Int := if glE LL C = 0 then wr7 (lsK LL) (boxK LL) C (xsK LL.flatten) (ysK LL.flatten) (osK LL.flatten) else []
theorem glE_chk {LL : List (List Kt)} (C : List Int) (h : LL ≠ []) : glE LL C = chkE LL C.length := by
  unfold glE wrE7 chkE lsK sumL
  rw [if_neg (fun e => h (List.map_eq_nil_iff.1 e))]
  rfl
def WrPost7 (LL : List (List Kt)) (C : List Int) (w : World) (e : Ending) (w' : World) : Prop := ∃ v, e = .returned (.tuple #[v, .int .i64 (glE LL C)]) ∧ OwnB w' w.heap.size v (glB LL C) ∧ Since w w'
theorem wrpost7_no {LL : List (List Kt)} {C : List Int} {w w' : World} {x : Int} (h : glE LL C = x) (hB : glB LL C = []) (hS : Since w w') : WrPost7 LL C w (.returned (.tuple #[.slice none 0 0, .int .i64 x])) w' :=
  ⟨_, by rw [h], by rw [hB]; exact OwnG.nil _ _ _ _ _, hS⟩
theorem sumL_flat (LL : List (List Kt)) : sumL LL = LL.flatten.length := by
  unfold sumL; rw [List.length_flatten]
theorem ends7_take {LL : List (List Kt)} {j : Nat} {L : List Kt} (hj : LL[j]? = some L) : ends7 (-1) (lsK (LL.take (j + 1))) = ends7 (-1) (lsK (LL.take j)) ++ [((sumL (LL.take (j + 1)) : Nat) : Int) - 1] := by
  have hjl : j < LL.length := by
    rcases Nat.lt_or_ge j LL.length with h | h
    · exact h
    · rw [List.getElem?_eq_none h] at hj; cases hj
  have e : LL[j] = L := by rw [List.getElem?_eq_getElem hjl] at hj; injection hj
  have key : ∀ (ls : List Nat) (v : Int) (l : Nat), ends7 v (ls ++ [l]) = ends7 v ls ++ [v + ((ls ++ [l]).sum : Nat)] := by
    intro ls
    induction ls with
    | nil => intro v l; simp [ends7]
    | cons a ls ih =>
      intro v l
      rw [List.cons_append]
      unfold ends7
      rw [ih, List.cons_append, List.sum_cons]
      congr 3
      omega
  have h1 : lsK (LL.take (j + 1)) = lsK (LL.take j) ++ [L.length] := by unfold lsK; rw [List.take_succ_eq_append_getElem hjl, e]; simp
  rw [h1, key]
  have h2 : sumL (LL.take (j + 1)) = (lsK (LL.take j) ++ [L.length]).sum := by rw [← h1]; rfl
  rw [h2]
  congr 2
end Go.Proofs.Ytcjjcjpkmjbfkaa

/-
  Layer 7: the document's triangle is written and read.
-/
namespace Go.Proofs.Ytcjjcjpkmjbfkaa
open Go.RowKit Go.ChangeShapes Go.WideShapes Go.Deep
set_option linter.unusedVariables false
set_option linter.unusedSimpArgs false

def trK : List (List Kt) := [[⟨0, 0, true⟩, ⟨100, 0, true⟩, ⟨0, 300, true⟩]]
def trB : List Int := [0, 1, 0, 0, 0, 0, 0, 100, 1, 44, 0, 2, 0, 0, 49, 51, 3, 100, 100, 1, 44]
theorem tr_e : glE trK [] = 0 := by decide +kernel
theorem tr_b : glB trK [] = trB := by
  have h1 : fls7 0 0 (xsK trK.flatten) (ysK trK.flatten) (osK trK.flatten) = [49, 51, 3] := by decide +kernel
  have h2 : rle7 [49, 51, 3] = [49, 51, 3] := by
    rw [rle7_cons, if_pos (by decide), rle7_cons, if_pos (by decide), rle7_cons, if_pos (by decide), rle7_nil]
  unfold glB
  rw [if_pos tr_e]
  unfold wr7 wrB7 kn7
  rw [h1, h2, if_neg (by decide)]
  decide +kernel
theorem tr_rd : (rdAns7 (fnL trB) 21).e = 0 ∧ (rdAns7 (fnL trB) 21).m = 0 ∧ (lay7 (rdAns7 (fnL trB) 21)).map (fun L => L.map (fun k => (k.x, k.y, k.o))) = trK.map (fun L => L.map (fun k => (k.x, k.y, k.o))) := by decide +kernel
theorem kt_inj : ∀ {L M : List (List Kt)}, L.map (fun L => L.map (fun k => (k.x, k.y, k.o))) = M.map (fun L => L.map (fun k => (k.x, k.y, k.o))) → L = M := by
  intro L M h
  have hi : ∀ a b : Kt, (a.x, a.y, a.o) = (b.x, b.y, b.o) → a = b := fun a b h => by
    obtain ⟨a1, a2, a3⟩ := a
    obtain ⟨b1, b2, b3⟩ := b
    simp at h
    obtain ⟨rfl, rfl, rfl⟩ := h
    rfl
  have h1 : ∀ A B : List Kt, A.map (fun k => (k.x, k.y, k.o)) = B.map (fun k => (k.x, k.y, k.o)) → A = B := by
    intro A
    induction A with
    | nil => intro B h; cases B with
      | nil => rfl
      | cons b B => simp at h
    | cons a A ih => intro B h; cases B with
      | nil => simp at h
      | cons b B =>
        rw [List.map_cons, List.map_cons] at h
        injection h with h2 h3
        rw [hi a b h2, ih B h3]
  induction L generalizing M with
  | nil => cases M with
    | nil => rfl
    | cons b M => simp at h
  | cons a L ih => cases M with
    | nil => simp at h
    | cons b M =>
      rw [List.map_cons, List.map_cons] at h
      injection h with h2 h3
      rw [h1 a b h2, ih h3]
def TriPost (w : World) (e : Ending) (w' : World) : Prop := ∃ A, e = .returned (.agg #[.slice A 1 1, .slice none 0 0]) ∧ RdOL w' w'.heap.size A trK ∧ Since w w'
theorem rdol_one {w : World} {b1 : Nat} {L : List Kt} {c : Nat} {A : Option Addr} (hb : b1 = w.heap.size) (t : TypeId) (h : RdKl w w.heap.size A L) : RdOL (w.alloc (.cells #[.slice A L.length c] t)) (w.alloc (.cells #[.slice A L.length c] t)).heap.size (some ⟨b1, 0, none⟩) [L] := by
  refine ⟨[⟨A, L.length, c⟩], rfl, hd_one w b1 hb t ⟨A, L.length, c⟩, fun j x M h1 h2 => ?_⟩
  have hj : j = 0 := by
    rcases Nat.eq_zero_or_pos j with h | h
    · exact h
    · rw [List.getElem?_eq_none (by simp; omega)] at h1; cases h1
  subst hj
  simp only [List.getElem?_cons_zero, Option.some.injEq] at h1 h2
  subst h1 h2
  exact ⟨rfl, h.on ((Since.refl w).alloc _)⟩
theorem tri_kn (w : World) (b : Nat) (hb : b = w.heap.size) (t : TypeId) : RdKl (w.alloc (.cells #[.int .i64 0, .int .i64 0, .bool true, .int .i64 100, .int .i64 0, .bool true, .int .i64 0, .int .i64 300, .bool true] t)) (w.alloc (.cells #[.int .i64 0, .int .i64 0, .bool true, .int .i64 100, .int .i64 0, .bool true, .int .i64 0, .int .i64 300, .bool true] t)).heap.size (some ⟨b, 0, none⟩) [⟨0, 0, true⟩, ⟨100, 0, true⟩, ⟨0, 300, true⟩] :=
  rdG_lit hb _ (fun j s hj i hi => by
    have h3 : j = 0 ∨ j = 1 ∨ j = 2 := by
      have : j < 3 := by
        rcases Nat.lt_or_ge j 3 with h | h
        · exact h
        · rw [List.getElem?_eq_none (by simpa using h)] at hj; cases hj
      omega
    have hi3 : i = 0 ∨ i = 1 ∨ i = 2 := by omega
    rcases h3 with rfl | rfl | rfl <;> (simp only [List.getElem?_cons_zero, List.getElem?_cons_succ, Option.some.injEq] at hj; subst hj) <;> rcases hi3 with rfl | rfl | rfl <;> rfl)
theorem tr_conv {w : World} {A : Option Addr} (h : RdB w w.heap.size A trB) (c : Nat) : (convert 25 9 (.slice A 21 c)).run Try.prog w = .ok (.string (strOfNums [0, 1, 0, 0, 0, 0, 0, 100, 1, 44, 0, 2, 0, 0, 49, 51, 3, 100, 100, 1, 44])) w := (rdb_rd h).conv c
theorem cv_start {A : Option Addr} {w0 : World} (h : RdB w0 w0.heap.size A trB) (c : Nat) : (∀ b o, b < w0.heap.size → w0.cell? ⟨b, o, none⟩ = w0.cell? ⟨b, o, none⟩) ∧ Since w0 w0 ∧ (convert 25 9 (.slice A 21 c)).run Try.prog w0 = .ok (.string (strOfNums [0, 1, 0, 0, 0, 0, 0, 100, 1, 44, 0, 2, 0, 0, 49, 51, 3, 100, 100, 1, 44])) w0 :=
  ⟨fun _ _ _ => rfl, Since.refl _, tr_conv h c⟩
theorem cv_step {A : Option Addr} {w0 w1 w2 : World} {c : Nat} (h0 : RdB w0 w0.heap.size A trB) (h : (∀ b o, b < w0.heap.size → w1.cell? ⟨b, o, none⟩ = w0.cell? ⟨b, o, none⟩) ∧ Since w0 w1 ∧ (convert 25 9 (.slice A 21 c)).run Try.prog w1 = .ok (.string (strOfNums [0, 1, 0, 0, 0, 0, 0, 100, 1, 44, 0, 2, 0, 0, 49, 51, 3, 100, 100, 1, 44])) w1) (k : Since w1 w2) :
    (∀ b o, b < w0.heap.size → w2.cell? ⟨b, o, none⟩ = w0.cell? ⟨b, o, none⟩) ∧ Since w0 w2 ∧ (convert 25 9 (.slice A 21 c)).run Try.prog w2 = .ok (.string (strOfNums [0, 1, 0, 0, 0, 0, 0, 100, 1, 44, 0, 2, 0, 0, 49, 51, 3, 100, 100, 1, 44])) w2 := by
  have s := h.2.1.trans k
  exact ⟨s.1, s, tr_conv (h0.on s) c⟩
theorem al_read7 (A : Option Addr) (c : Nat) (w : World) (h : RdB w w.heap.size A trB) (hc : 21 ≤ c) : Calls Try.prog 41 #[.slice A 21 c] w fun e w' => ∃ A1 c1 A2 c2, e = .returned (.tuple #[.agg #[.slice A1 1 c1, .slice A2 0 c2], .int .i64 0]) ∧ RdOL w' w'.heap.size A1 trK ∧ Since w w' := by
  refine (si_read A 21 c (fnL trB) w (rdb_rd' h rfl) (bytes_fn (L := trB) (by unfold Bytes trB; decide)) (by omega) hc).mono ?_
  rintro e w' ⟨A1, c1, A2, c2, rfl, h1, _, _, hS⟩
  obtain ⟨e1, e2, e3⟩ := tr_rd
  have e4 := kt_inj e3
  rw [e4] at h1
  exact ⟨A1, c1, A2, c2, by rw [e1, e2, e4]; rfl, h1, hS⟩
theorem eq_pt7 (w : World) (x y u v : Int) : (Op.equalIn 10000 47 (.agg #[.int .i64 x, .int .i64 y]) (.agg #[.int .i64 u, .int .i64 v])).run Try.prog w = .ok (x == u && y == v) w := by
  rw [run_equalIn_struct w 9999 47 _ _ (by kernel_rfl) (by kernel_rfl)]
  have heq : ∀ (d : Nat) (a b : Int) (w : World), (Op.equalIn (d + 1) 3 (.int .i64 a) (.int .i64 b)).run Try.prog w = .ok (a == b) w := fun d a b w => run_equalIn_int w d _ _ _ a b Try.underlying3
  have hc : Try.prog.cellsOf 3 = 1 := by kernel_rfl
  simp only [Program.fieldsOf, Try.underlying47]
  by_cases h1 : x = u <;> by_cases h2 : y = v <;> simp [go_sem, h1, h2]
end Go.Proofs.Ytcjjcjpkmjbfkaa
