/-
  Texts of this seat, put together: each with its own head.
-/
import Derived.Test.YtckochcocflleaaPqBb
import Derived.Deep.CutBlock
import Derived.Deep.DeepCutAuto
import Derived.Carry
import Derived.SizedLaws
import Derived.Deep.Matrix
import Derived.Deep.SlicePairs
import Derived.Shelf.SlSortCmp.WholeK
import Derived.Test.YtckochcocflleaaChecked

/-
  Layer 15: lines in memory; 'between', 'apart', 'vector', 'product', 'On', walked.
-/
namespace Go.Proofs.Ytckochcocflleaa
open Go.RowKit
set_option linter.unusedVariables false

/-- A line's numbers. -/
structure Ln where
  (ax ay bx bz : Int)
def Ln.v (l : Ln) : Value := .agg #[.int .i64 l.ax, .int .i64 l.ay, .int .i64 l.bx, .int .i64 l.bz]
def Ln.wf (l : Ln) : Prop := InP l.ax l.ay ∧ InP l.bx l.bz
def LnAt (w : World) (b : Nat) (l : Ln) : Prop := w.cell? ⟨b, 0, none⟩ = some (.int .i64 l.ax) ∧ w.cell? ⟨b, 1, none⟩ = some (.int .i64 l.ay) ∧ w.cell? ⟨b, 2, none⟩ = some (.int .i64 l.bx) ∧ w.cell? ⟨b, 3, none⟩ = some (.int .i64 l.bz) ∧ b < w.heap.size
section
variable {w w' : World} {b : Nat} {l : Ln}
theorem LnAt.since (h : LnAt w b l) (k : Since w w') : LnAt w' b l := by
  obtain ⟨h1, h2, h3, h4, h5⟩ := h
  exact ⟨(k.1 _ _ h5).trans h1, (k.1 _ _ h5).trans h2, (k.1 _ _ h5).trans h3, (k.1 _ _ h5).trans h4, k.2.2.1 _ h5⟩
theorem LnAt.alloc (h : LnAt w b l) (o : Obj) : LnAt (w.alloc o) b l := h.since ((Since.refl w).alloc o)
theorem LnAt.drew (h : LnAt w b l) : LnAt w.drew b l := h
theorem ln_new (w : World) (b : Nat) (hb : b = w.heap.size) (l : Ln) (t : TypeId) : LnAt (w.alloc (.cells #[.int .i64 l.ax, .int .i64 l.ay, .int .i64 l.bx, .int .i64 l.bz] t)) b l := by
  subst hb
  refine ⟨?_, ?_, ?_, ?_, by simp⟩ <;> (rw [World.cell?_alloc_new]; rfl)
end
def lo2 (a b : Int) : Int := if b < a then b else a
def hi2 (a b : Int) : Int := if a < b then b else a
def btw (a n b : Int) : Bool := decide (lo2 a b ≤ n) && decide (n ≤ hi2 a b)
def aprt (a b c d : Int) : Bool := decide (hi2 a b < lo2 c d) || decide (hi2 c d < lo2 a b)
theorem min2_run : ∀ (A B : Int) (w : World), (Builtin.min_ #[3, 3] 3 #[.int .i64 A, .int .i64 B]).run Try.prog w = .ok (.int .i64 (lo2 A B)) w := fun _ _ _ => rfl
theorem max2_run : ∀ (A B : Int) (w : World), (Builtin.max_ #[3, 3] 3 #[.int .i64 A, .int .i64 B]).run Try.prog w = .ok (.int .i64 (hi2 A B)) w := fun _ _ _ => rfl
theorem cr_between (a n b : Int) (w : World) : Calls Try.prog 129 #[.int .i64 a, .int .i64 n, .int .i64 b] w fun e w' => e = .returned (.bool (btw a n b)) ∧ Since w w' := by
  have hmin := min2_run
  have hmax := max2_run
  unfold btw
  cases h1 : decide (lo2 a b ≤ n) <;> cases h2 : decide (n ≤ hi2 a b)
  all_goals
    go_enter Try.func129, Try.ntmps129
    go_wp2
    all_goals go_ret
    all_goals exact ⟨by first | rfl | simp, by (repeat (first | with_reducible (exact Since.refl _) | with_reducible assumption | with_reducible (refine Since.drew ?_) | with_reducible (refine Since.drewN ?_ _) | with_reducible (refine Since.alloc ?_ _) | (with_reducible (refine Since.setCell ?_ ?_ _); rotate_left; focus (first | (simp; done) | (simp; omega) | omega)) | (with_reducible (refine Since.trans ?_ (by with_reducible assumption)))))⟩
theorem cr_apart (a b c d : Int) (w : World) : Calls Try.prog 92 #[.int .i64 a, .int .i64 b, .int .i64 c, .int .i64 d] w fun e w' => e = .returned (.bool (aprt a b c d)) ∧ Since w w' := by
  have hmin := min2_run
  have hmax := max2_run
  unfold aprt
  cases h1 : decide (hi2 a b < lo2 c d) <;> cases h2 : decide (hi2 c d < lo2 a b)
  all_goals
    go_enter Try.func92, Try.ntmps92
    go_wp2
    all_goals go_ret
    all_goals exact ⟨by first | rfl | simp, by (repeat (first | with_reducible (exact Since.refl _) | with_reducible assumption | with_reducible (refine Since.drew ?_) | with_reducible (refine Since.drewN ?_ _) | with_reducible (refine Since.alloc ?_ _) | (with_reducible (refine Since.setCell ?_ ?_ _); rotate_left; focus (first | (simp; done) | (simp; omega) | omega)) | (with_reducible (refine Since.trans ?_ (by with_reducible assumption)))))⟩
theorem cr_vector (x y u v : Int) (h1 : IntKind.i64.wrap (u - x) = u - x) (h2 : IntKind.i64.wrap (v - y) = v - y) (w : World) :
    Calls Try.prog 94 #[Pt x y, Pt u v] w fun e w' => e = .returned (Pt (u - x) (v - y)) ∧ Since w w' := by
  unfold Pt
  go_enter Try.func94, Try.ntmps94
  go_wp2
  refine bodyPost_ret (by simp only [results, Try.results94]; go_simp) rfl ⟨rfl, ?_⟩
  (repeat (first | with_reducible (exact Since.refl _) | with_reducible assumption | with_reducible (refine Since.drew ?_) | with_reducible (refine Since.drewN ?_ _) | with_reducible (refine Since.alloc ?_ _) | (with_reducible (refine Since.setCell ?_ ?_ _); rotate_left; focus (first | (simp; done) | (simp; omega) | omega)) | (with_reducible (refine Since.trans ?_ (by with_reducible assumption)))))
theorem cr_product (x y u v : Int) (h1 : IntKind.i64.wrap (x * v) = x * v) (h2 : IntKind.i64.wrap (y * u) = y * u) (h3 : IntKind.i64.wrap (x * v - y * u) = x * v - y * u) (w : World) :
    Calls Try.prog 93 #[Pt x y, Pt u v] w fun e w' => e = .returned (.int .i64 (crossI x y u v)) ∧ Since w w' := by
  unfold Pt crossI
  go_enter Try.func93, Try.ntmps93
  go_wp2
  go_ret
  exact ⟨rfl, by (repeat (first | with_reducible (exact Since.refl _) | with_reducible assumption | with_reducible (refine Since.drew ?_) | with_reducible (refine Since.drewN ?_ _) | with_reducible (refine Since.alloc ?_ _) | (with_reducible (refine Since.setCell ?_ ?_ _); rotate_left; focus (first | (simp; done) | (simp; omega) | omega)) | (with_reducible (refine Since.trans ?_ (by with_reducible assumption)))))⟩
end Go.Proofs.Ytckochcocflleaa

/-
  Layer 16: the functions that the two sorts and the pairs are handed, walked to the world that they leave.
-/
namespace Go.Proofs.Ytckochcocflleaa
open Go.RowKit
set_option linter.unusedVariables false

set_option maxHeartbeats 1000000 in
/-- A line's least x. -/
theorem px_left (l : Ln) (w : World) : Calls Try.prog 88 #[l.v] w fun e w' => e = .returned (.int .i64 (lo2 l.ax l.bx)) ∧ Gr w w' := by
  have hmin := min2_run
  unfold Ln.v
  go_enter Try.func88, Try.ntmps88
  go_wp2
  go_ret
  exact ⟨rfl, (Gr.refl w).alloc _⟩
set_option maxRecDepth 100000 in
set_option maxHeartbeats 4000000 in
/-- The order of lines. -/
theorem px_bylow (s t : Ln) (b : Nat) (w : World) (hb : w.cell? ⟨b, 0, none⟩ = some (.func (.func 88) #[] #[])) (hlt : b < w.heap.size) :
    Calls Try.prog 91 #[s.v, t.v, .pointer (some ⟨b, 0, none⟩)] w fun e w' => e = .returned (.int .i64 (cmpI (lo2 s.ax s.bx) (lo2 t.ax t.bx))) ∧ Gr w w' := by
  have h1 := fun w => px_left s w
  have h2 := fun w => px_left t w
  have hN := fun w b hb t => ln_new w b hb s t
  have hM := fun w b hb t' => ln_new w b hb t t'
  unfold Ln.v at *
  generalize lo2 s.ax s.bx = A at *
  generalize lo2 t.ax t.bx = B at *
  have H1 := Lib.hid h1; have H2 := Lib.hid h2; have HN := Lib.hid hN; have HM := Lib.hid hM
  clear h1 h2 hN hM
  go_enter Try.func91, Try.ntmps91
  go_upto_region 1 with fail
  refine wp_named fun wq hwq => ?_
  have hS : Since w wq := by subst hwq; (repeat (first | with_reducible (exact Since.refl _) | with_reducible assumption | with_reducible (refine Since.drew ?_) | with_reducible (refine Since.drewN ?_ _) | with_reducible (refine Since.alloc ?_ _) | (with_reducible (refine Since.setCell ?_ ?_ _); rotate_left; focus (first | (simp; done) | (simp; omega) | omega)) | (with_reducible (refine Since.trans ?_ (by with_reducible assumption)))))
  have hG : Gr w wq := by subst hwq; exact ((Gr.refl w).alloc _).alloc _
  have hA : LnAt wq w.heap.size s := by subst hwq; exact (HN.out w _ rfl _).alloc _
  have hB : LnAt wq (w.heap.size + 1) t := by subst hwq; exact HM.out _ (w.heap.size + 1) (by simp) _
  have c0 := (hS.1 b 0 hlt).trans hb
  have c1 := hS.2.2.1 b hlt
  obtain ⟨a1, a2, a3, a4, a5⟩ := hA
  obtain ⟨b1, b2, b3, b4, b5⟩ := hB
  clear hwq hb
  have HG := Lib.hid hG
  clear hG
  have tok7 : True := trivial
  have tok8 : True := trivial
  (refine wp_named fun wr1 hwr1 => ?_; go_region_held3 (fun w' => (∀ b o, b < wr1.heap.size → w'.cell? ⟨b, o, none⟩ = wr1.cell? ⟨b, o, none⟩) ∧ (∀ b o, b < wr1.heap.size → w'.frozen? ⟨b, o, none⟩ = wr1.frozen? ⟨b, o, none⟩) ∧ (∀ k, k < wr1.heap.size → k < w'.heap.size) ∧ Below wr1.heap.size wr1 w' ∧ Gr wr1 w') ((subst hwr1; first | with_reducible assumption | (refine gr_step (by with_reducible assumption) ?_; first | with_reducible assumption | ((repeat (first | with_reducible (exact Gr.refl _) | with_reducible assumption | with_reducible (refine Gr.drew ?_) | with_reducible (refine Gr.drewN ?_ _) | with_reducible (refine Gr.alloc ?_ _))); done)) | (refine gr_step (gr_start _) ?_; first | with_reducible assumption | ((repeat (first | with_reducible (exact Gr.refl _) | with_reducible assumption | with_reducible (refine Gr.drew ?_) | with_reducible (refine Gr.drewN ?_ _) | with_reducible (refine Gr.alloc ?_ _) | (with_reducible (refine Gr.trans ?_ (by with_reducible assumption))))); done)))) (first | (go_at_call 88; have _t := tok7; (with_reducible refine (H1.out _).mono ?_); rintro e w1 ⟨rfl, hG1⟩; have hZ1 := hG1.since.below.size; (try simp at hZ1); clear tok7) | (go_at_call 88; have _t := tok8; (with_reducible refine (H2.out _).mono ?_); rintro e w1 ⟨rfl, hG1⟩; have hZ1 := hG1.since.below.size; (try simp at hZ1); clear tok8) | (go_at_call 71; refine (cmp_int _ _ _).mono ?_; rintro e w1 ⟨rfl, rfl⟩)); all_goals (rename_i hHeld; obtain ⟨hcR1, hfR1, hzR1, hbR1, hgR1⟩ := hHeld; subst hwr1))
  all_goals go_wp2_with fail
  all_goals go_ret
  all_goals exact ⟨rfl, HG.out.trans (by (repeat (first | with_reducible (exact Gr.refl _) | with_reducible assumption | with_reducible (refine Gr.drew ?_) | with_reducible (refine Gr.drewN ?_ _) | with_reducible (refine Gr.alloc ?_ _) | (with_reducible (refine Gr.trans ?_ (by with_reducible assumption))))))⟩
end Go.Proofs.Ytckochcocflleaa

/-
  The law's last step for whatever parameters: what came in reads as it did (the kit's 'Trod_stays'); slices of whole numbers that came in, opened.
-/
namespace Go.Proofs.Ytckochcocflleaa
open Go.RowKit Go.ChangeShapes Go.WideShapes

section
variable {H : Type} {enc : TypeId × Value → H} {P : Program}
theorem all_stays (hl : laidOutB P = true) {W W' : World} {sp : Nat → Bool} : ∀ {ts : List TypeId} {vs : List Value} {ds : List (DataW H)} {ps : List MemPlace}, (∀ t ∈ ts, P.readableRec t = true ∧ t < P.types.size) →
    DataW.TrodAll enc P W 0 (fun _ => true) true ts vs ds ps → (∀ p ∈ ps, W.sameAt W' p) → (∀ p ∈ ps, sp p.block = true) → DataW.TrodAll enc P W' 0 sp true ts vs ds ps
  | [], [], [], _, _, h, _, _ => h
  | [], _ :: _, _, _, _, h, _, _ => by cases h
  | [], [], _ :: _, _, _, h, _, _ => by cases h
  | _ :: _, [], _, _, _, h, _, _ => by cases h
  | _ :: _, _ :: _, [], _, _, h, _, _ => by cases h
  | t :: ts, v :: vs, d :: ds, ps, ht, h, hs, hp => by
    obtain ⟨p, q, h1, h2, rfl⟩ := h
    exact ⟨p, q, WideElems.Trod_stays hl (ht t (by simp)).1 (ht t (by simp)).2 h1 (fun x hx => hs x (by simp [hx])) (fun x hx => hp x (by simp [hx])),
      all_stays hl (fun t' h' => ht t' (by simp [h'])) h2 (fun x hx => hs x (by simp [hx])) (fun x hx => hp x (by simp [hx])), rfl⟩
/-- The law's last step: it answers true, and all that was there is as it was. -/
theorem post_true {f : Func} {s : ChangeSpec} {apart fresh handsOn again : Bool} {W W' : World} {args : Array Value} {ds : List (DataW H)} {before : List MemPlace} {tb : TypeId}
    (hl : laidOutB P = true) (hts : f.params.toList.all (fun t => P.readableRec t && decide (t < P.types.size)) = true)
    (hW : DataW.Whole enc P f.params.toList s.vars apart W args.toList ds [] before) (hv : s.vars = []) (hr : f.resultTypes = #[tb]) (hb : P.underlying tb = some .bool)
    (h1 : (s.fn H (ds ++ [])).results = [.lit (.bool true)]) (h2 : (s.fn H (ds ++ [])).args = ds) (h3 : (s.fn H (ds ++ [])).vars = []) (hS : Since W W') :
    s.post enc P f apart fresh handsOn again W args (.bool true) W' := by
  have hW0 := hW
  obtain ⟨p, q, hA, hV, rfl, _, _⟩ := hW
  rw [hv] at hV
  obtain ⟨_, rfl⟩ := trodVars_none hV
  simp only [List.append_nil] at hW0
  have hlt : ∀ x ∈ p, x.block < W.heap.size := fun x hx => hW0.lt x hx
  have hq : ∀ t ∈ f.params.toList, P.readableRec t = true ∧ t < P.types.size := fun t ht => by
    have := List.all_eq_true.1 hts t ht
    simpa using this
  refine post_since (pa := p) (pv := []) hW0 (fun _ _ _ => ?_) (fun sp hsp => ?_) (fun sp hsp => ?_) (by simp) hS ?_
  · rw [h1, hr]
    exact trodAll_cons_mk (shut_bool hb _) trodAll_mk0
  · rw [h2]
    exact all_stays hl hq hA (fun x hx => hS.below.same (hlt x hx)) (fun x hx => hsp x hx)
  · rw [h3, hv]; rfl
  · exact ok_one hr rfl (okWide_bool_mk hb _)
end

section
variable {H : Type} {enc : TypeId × Value → H} {P : Program} {W : World}
/-- A slice of whole numbers that came in. -/
theorem open_rd {t e : TypeId} {k : IntKind} {r : Reach} {b0 : Nat} {v : Value} {d : DataW H} {ps : List MemPlace} (ht : P.underlying t = some (.slice e)) (he : P.underlying e = some (.int k)) (hc : P.cellsOf e = 1)
    (hval : Value.okWide P W r b0 t v) (h : DataW.Trod enc P W 0 (fun _ => true) true t v d ps) (hlt : ∀ x ∈ ps, x.block < W.heap.size) :
    ∃ A n c f, v = .slice A n c ∧ n ≤ c ∧ c ≤ maxLen ∧ Rd W W.heap.size A n (IntRow k f) ∧ (∀ j, j < n → (Lit.int k (f j)).wf = true) ∧ (c = 0 ∨ ∃ el sp, d = .slice el sp ∧ el.length + sp.length = c) := by
  obtain ⟨A, n, c, rfl⟩ := okWide_slice ht hval
  obtain ⟨fuel, hf⟩ := h
  rcases open_ints ht he hc hf with ⟨hcs, hx⟩ | ⟨a, len, cap, zs, hcs, _, hl, hm, hz, hx, hcell, hwz⟩
  · simp [Value.cells] at hcs
    obtain ⟨rfl, rfl, rfl⟩ := hcs
    exact ⟨none, 0, 0, fun _ => 0, rfl, Nat.le_refl _, Nat.zero_le _, Rd.zero, fun j hj => absurd hj (by omega), .inl rfl⟩
  · simp [Value.cells] at hcs
    obtain ⟨rfl, rfl, rfl⟩ := hcs
    simp only [if_true] at hz
    simp only [Prod.mk.injEq] at hx
    obtain ⟨rfl, rfl⟩ := hx
    refine ⟨some a, n, c, fun j => zs.getD j 0, rfl, hl, hm, fun hn => ?_, fun j hj => ?_, .inr ⟨_, _, rfl, ?_⟩⟩
    · have hspot : a.spot = none := by
        have h0 := hcell 0 (by omega)
        cases hsp : a.spot with
        | none => rfl
        | some s =>
          have e : (a.add 0).spot = some s := by unfold Addr.add; split <;> simp_all
          simp only [World.cell?] at h0
          split at h0
          · simp [e] at h0
          · cases h0
      obtain ⟨b, o, s⟩ := a
      simp only at hspot
      subst hspot
      refine ⟨b, o, rfl, hlt (.cell b (o + 0)) (MemPlace.mem_row.2 ⟨0, by omega, rfl⟩), fun j hj => ?_⟩
      have := hcell j (by omega)
      rw [← add_plain]
      exact this
    · have hj' : j < zs.length := by omega
      have : zs.getD j 0 = zs[j] := by simp [List.getD, hj']
      show (Lit.int k (zs.getD j 0)).wf = true
      rw [this]
      exact hwz _ (List.getElem_mem hj')
    · simp [lits]; omega
theorem wf_u8 {x : Int} (h : (Lit.int .u8 x).wf = true) : 0 ≤ x ∧ x ≤ 255 := by
  simpa [Lit.wf, IntKind.min, IntKind.max, IntKind.signed, IntKind.bits] using h
theorem wf_i64 {a : Int} (h : (Lit.int .i64 a).wf = true) : In64 a := by
  have h : -9223372036854775808 ≤ a ∧ a ≤ 9223372036854775807 := by simpa [Lit.wf, IntKind.min, IntKind.max, IntKind.signed, IntKind.bits] using h
  unfold In64; omega
end
end Go.Proofs.Ytckochcocflleaa

/-
  A value of several cells that came in (a struct, an array, one in the other), opened cell by cell.
-/
namespace Go.Proofs.Ytckochcocflleaa
open Go.RowKit Go.ChangeShapes Go.WideShapes

/-- The type of a type's cell j: of one cell itself. -/
def leafAt (P : Program) : Nat → TypeId → Nat → Option TypeId
  | 0, _, _ => none
  | n + 1, t, j => match P.underlying t with
    | some (.struct fs) => (fs.toList.find? (fun f => decide (f.offset ≤ j ∧ j < f.offset + P.cellsOf f.type))).bind fun f => leafAt P n f.type (j - f.offset)
    | some (.array k e) => if 0 < P.cellsOf e ∧ j / P.cellsOf e < k then leafAt P n e (j % P.cellsOf e) else none
    | some .bool | some (.int _) | some .string | some (.slice _) => if j = 0 then some t else none
    | _ => none
section
variable {H : Type} {enc : TypeId × Value → H} {P : Program} {W : World} {base : Nat} {sp : Nat → Bool} {held : Bool}
theorem one_cell {t : TypeId} {m : Nat} {cs : List Value} {x : DataW H × List MemPlace} (h : DataW.trod enc P W base sp held m t cs = some x)
    (hk : P.underlying t = some .bool ∨ (∃ k, P.underlying t = some (.int k)) ∨ P.underlying t = some .string ∨ (∃ e, P.underlying t = some (.slice e))) : ∃ v, cs = [v] := by
  cases m with
  | zero => simp [DataW.trod] at h
  | succ m =>
    unfold DataW.trod at h
    rcases hk with hk | ⟨k, hk⟩ | hk | ⟨e, hk⟩ <;> rw [hk] at h <;> (split at h <;> first | (simp_all; done) | exact ⟨_, rfl⟩)
theorem leaf_at : ∀ (n : Nat) (t t' : TypeId) (j : Nat), leafAt P n t j = some t' → ∀ (m : Nat) (cs : List Value) (x : DataW H × List MemPlace), DataW.trod enc P W base sp held m t cs = some x →
    ∃ v m' y, cs[j]? = some v ∧ DataW.trod enc P W base sp held m' t' [v] = some y ∧ ∀ p ∈ y.2, p ∈ x.2 := by
  intro n
  induction n with
  | zero => intro t t' j h; simp [leafAt] at h
  | succ n ih =>
    intro t t' j h m cs x hx
    unfold leafAt at h
    split at h
    · rename_i fs hu
      rw [Option.bind_eq_some_iff] at h
      obtain ⟨f, hf, hl⟩ := h
      have hmem := List.mem_of_find?_eq_some hf
      have hp := List.find?_some hf
      simp only [decide_eq_true_eq] at hp
      obtain ⟨i, hi⟩ := List.getElem?_of_mem hmem
      obtain ⟨xs, m1, rfl, rfl, hlen, hxs, hall⟩ := DataW.trod_struct hu hx
      have hi' : fs[i]? = some f := by simpa using hi
      have hget := hall i f hi'
      have hil : i < xs.length := by
        rw [hxs]
        have := (List.getElem?_eq_some_iff.1 hi).1
        simpa using this
      rw [List.getElem?_eq_getElem hil] at hget
      obtain ⟨v, m', y, h1, h2, h3⟩ := ih _ _ _ hl _ _ _ hget
      refine ⟨v, m', y, ?_, h2, fun p hpm => ?_⟩
      · rw [List.getElem?_take, if_pos (by omega), List.getElem?_drop, show f.offset + (j - f.offset) = j by omega] at h1
        exact h1
      · exact List.mem_flatMap.2 ⟨xs[i], List.getElem_mem hil, h3 p hpm⟩
    · rename_i k e hu
      split at h
      · rename_i hc
        obtain ⟨xs, m1, rfl, rfl, hlen, hxs, hall⟩ := DataW.trod_array hu hx
        have hget := hall (j / P.cellsOf e) hc.2
        have hil : j / P.cellsOf e < xs.length := by omega
        rw [List.getElem?_eq_getElem hil] at hget
        obtain ⟨v, m', y, h1, h2, h3⟩ := ih _ _ _ h _ _ _ hget
        refine ⟨v, m', y, ?_, h2, fun p hpm => ?_⟩
        · rw [List.getElem?_take, if_pos (Nat.mod_lt _ hc.1), List.getElem?_drop, show j / P.cellsOf e * P.cellsOf e + j % P.cellsOf e = j from Nat.div_add_mod' j _] at h1
          exact h1
        · exact List.mem_flatMap.2 ⟨xs[j / P.cellsOf e], List.getElem_mem hil, h3 p hpm⟩
      · cases h
    all_goals first
      | (rename_i hu; split at h
         · rename_i h0; subst h0; injection h with h; subst h
           obtain ⟨v, rfl⟩ := one_cell hx (by first | exact .inl hu | exact .inr (.inl ⟨_, hu⟩) | exact .inr (.inr (.inl hu)) | exact .inr (.inr (.inr ⟨_, hu⟩)))
           exact ⟨v, m, x, rfl, hx, fun _ hp => hp⟩
         · cases h)
      | cases h
theorem leaf_int {n : Nat} {t t' : TypeId} {j : Nat} {k : IntKind} (hl : leafAt P n t j = some t') (hk : P.underlying t' = some (.int k)) {v : Value} {d : DataW H} {ps : List MemPlace} (h : DataW.Trod enc P W base sp held t v d ps) :
    ∃ a, v.cells[j]? = some (.int k a) ∧ (Lit.int k a).wf = true := by
  obtain ⟨m, hm⟩ := h
  obtain ⟨u, m', y, h1, h2, _⟩ := leaf_at n t t' j hl m _ _ hm
  obtain ⟨a, e, _, hw⟩ := DataW.trod_int hk h2
  injection e with e
  subst e
  exact ⟨a, by simpa using h1, hw⟩
theorem leaf_bool {n : Nat} {t t' : TypeId} {j : Nat} (hl : leafAt P n t j = some t') (hk : P.underlying t' = some .bool) {v : Value} {d : DataW H} {ps : List MemPlace} (h : DataW.Trod enc P W base sp held t v d ps) :
    ∃ a, v.cells[j]? = some (.bool a) := by
  obtain ⟨m, hm⟩ := h
  obtain ⟨u, m', y, h1, h2, _⟩ := leaf_at n t t' j hl m _ _ hm
  obtain ⟨a, e, _⟩ := DataW.trod_bool hk h2
  injection e with e
  subst e
  exact ⟨a, by simpa using h1⟩
theorem okWide_agg {r : Reach} {b0 : Nat} {t : TypeId} {v : Value} (hu : (match P.underlying t with | some (.struct _) | some (.array _ _) => true | _ => false) = true) (h : Value.okWide P W r b0 t v) : ∃ cs, v = .agg cs ∧ cs.size = P.cellsOf t := by
  unfold Value.okWide at h
  split at h
  · obtain ⟨cs, h1, h2, _⟩ := h; exact ⟨cs, h1, h2⟩
  · obtain ⟨cs, h1, h2, _⟩ := h; exact ⟨cs, h1, h2⟩
  · rename_i h1 h2
    split at hu
    · rename_i e; exact absurd e (h1 _)
    · rename_i e; exact absurd e (h2 _ _)
    · cases hu
theorem agg_cells {cs : Array Value} {l : List Value} (hs : cs.size = l.length) (h : ∀ i, i < l.length → cs[i]? = l[i]?) : cs = l.toArray := by
  apply Array.ext
  · simpa using hs
  · intro i h1 h2
    have := h i (by omega)
    rw [Array.getElem?_eq_getElem h1] at this
    simp only [List.size_toArray] at h2
    rw [List.getElem?_eq_getElem h2] at this
    simpa using this
end
end Go.Proofs.Ytckochcocflleaa

/-
  append to a row of the call's own that may be nil, of a source that may be nil; a slice of slices of whole numbers that came in.
-/
namespace Go.Proofs.Ytckochcocflleaa
open Go.RowKit Go.ChangeShapes Go.WideShapes Go.Deep
section
variable {P : Program} (w : World)
theorem run_append_any (base : Nat) (t ty e : TypeId) (i : TypeInfo) (z : Value) (bytes : Nat) (ht : P.underlying t = some (.slice e)) (hi : P.info? e = some i) (hz : i.zero = some z)
    (hsize : i.size = 1) (hby : i.bytes = bytes) (hzs : z.cells.size = 1) (v : Value) (n : Nat) (xs : List Value) (hown : w.ownsRow base e 1 v n xs)
    (B : Nat) (A : Option Addr) (m c : Nat) (V : Nat → Value) (hr : Rd w B A m V) (h1 : ∀ u ∈ tab m V, u.oneCell' = true) (hbytes : (n + m) * bytes ≤ 140737488355328) (h63 : n + m ≤ maxLen) (hbase : base ≤ w.heap.size) :
    ∃ v' w', (Builtin.append_ #[t, t] ty #[v, .slice A m c]).run P w = .ok v' w' ∧ w'.ownsRow base e 1 v' (n + m) (xs ++ tab m V) ∧ w.grownBy w' v.ownBlock := by
  rcases A with _ | ad
  · have hm : m = 0 := by
      rcases Nat.eq_zero_or_pos m with h0 | h0
      · exact h0
      · obtain ⟨b, o, h, _⟩ := hr h0; cases h
    subst hm
    refine ⟨v, w, ?_, by simpa [tab_zero] using hown, World.grownBy.refl w _⟩
    rcases hown.2 with ⟨rfl, hx⟩ | ⟨g, cap, cur, rfl, _, _, hnc, _⟩
    · have hn : n = 0 := by have h1 := hown.1; rw [hx] at h1; simp at h1; omega
      subst hn
      simp [Builtin.append_, run_underlying ht, sizeOf, typeInfo, hi, Builtin.lenOf, Builtin.firstCells]
    · simp [Builtin.append_, run_underlying ht, sizeOf, typeInfo, hi, Builtin.lenOf, Builtin.firstCells, hnc, storeCells]
  · have hc : ∀ j u, (tab m V)[j]? = some u → w.cell? (ad.add j) = some u := by
      intro j u hu
      rw [tab_get] at hu
      split at hu
      · rename_i hj
        obtain ⟨b, o, h, _, hc⟩ := hr (by omega)
        injection h with h; subst h; injection hu with hu; subst hu
        rw [← hc j hj]
        unfold Addr.add; split <;> simp_all
      · cases hu
    obtain ⟨v', w', hrun, h2, h3, _⟩ := run_append_own (P := P) w base t ty e i z 1 bytes ht hi hz hsize hby hzs (by omega) v n xs hown ad m c (tab m V) (by rw [tab_len]; omega) hc h1 h63 hbytes hbase
    exact ⟨v', w', hrun, h2, h3⟩
theorem wpList_append_any {ops : Array Oper} {rest : List Oper} {o : Oper} {a : Act} {Q : Exit → Act → World → Prop} (hgd : o.guard = none) (s x : Operand) (t : TypeId)
    (ho : o.op = .call { callee := .builtin .append, args := #[s, x], argTypes := #[t, t] })
    (base : Nat) (e : TypeId) (i : TypeInfo) (z : Value) (bytes : Nat) (ht : P.underlying t = some (.slice e)) (hi : P.info? e = some i) (hz : i.zero = some z)
    (hsize : i.size = 1) (hby : i.bytes = bytes) (hzs : z.cells.size = 1) (v : Value) (n : Nat) (xs : List Value) (hs : a.eval s = v) (hown : w.ownsRow base e 1 v n xs)
    (B : Nat) (A : Option Addr) (m c : Nat) (V : Nat → Value) (hx : a.eval x = .slice A m c) (hr : Rd w B A m V) (h1 : ∀ u ∈ tab m V, u.oneCell' = true) (hbytes : (n + m) * bytes ≤ 140737488355328) (h63 : n + m ≤ maxLen) (hbase : base ≤ w.heap.size)
    (h : ∀ v' w', w'.ownsRow base e 1 v' (n + m) (xs ++ tab m V) → w.grownBy w' v.ownBlock → wpList P ops Q rest (a.put o.dst v') w') :
    wpList P ops Q (o :: rest) a w := by
  refine wpList_plain hgd fun K hK => ?_
  obtain ⟨v', w', hr, h2, h3⟩ := run_append_any (P := P) w base t o.type e i z bytes ht hi hz hsize hby hzs v n xs hown B A m c V hr h1 hbytes h63 hbase
  unfold Oper.wp execOp
  simp only [ho, resolve, invoke, builtin, Sem.run_bind, Sem.run_pure, Result.andThen_ok, List.map_toArray, List.map_cons, List.map_nil, hs, hx, hr]
  exact hK _ _ (h v' w' h2 h3)
end
/-- What an own row, nil let in, reads as. -/
theorem own_any {w : World} {base : Nat} {e : TypeId} {v : Value} {n : Nat} {V : Nat → Value} (h : w.ownsRow base e 1 v n (tab n V)) : ∃ A c, v = .slice A n c ∧ n ≤ c ∧ Rd w w.heap.size A n V ∧ (∀ k, v.ownBlock = some k → base ≤ k) := by
  rcases h.2 with ⟨rfl, hx⟩ | ⟨g, cap, cur, rfl, hb, hh, hnc, _⟩
  · have hn : n = 0 := by have h1 := h.1; rw [hx] at h1; simp at h1; omega
    subst hn
    exact ⟨none, 0, rfl, Nat.le_refl _, Rd.zero, fun k hk => by cases hk⟩
  · exact ⟨_, cap, rfl, hnc, Rd.of_row (row_of_own h), fun k hk => by simp [Value.ownBlock] at hk; omega⟩

section
variable {H : Type} {enc : TypeId × Value → H} {P : Program} {W : World}
theorem rd_of_places {a : Addr} {n len : Nat} {V : Nat → Value} {ps : List MemPlace} (hps : MemPlace.row a len = ps) (hlt : ∀ x ∈ ps, x.block < W.heap.size) (hn : n ≤ len) (hc : ∀ i, i < n → W.cell? (a.add i) = some (V i)) : Rd W W.heap.size (some a) n V := fun h0 => by
  have hspot : a.spot = none := by
    have h0 := hc 0 h0
    cases hsp : a.spot with
    | none => rfl
    | some s =>
      have e : (a.add 0).spot = some s := by unfold Addr.add; split <;> simp_all
      simp only [World.cell?] at h0
      split at h0
      · simp [e] at h0
      · cases h0
  obtain ⟨b, o, s⟩ := a
  simp only at hspot
  subst hspot
  subst hps
  refine ⟨b, o, rfl, hlt (.cell b (o + 0)) (MemPlace.mem_row.2 ⟨0, by omega, rfl⟩), fun j hj => ?_⟩
  rw [← add_plain]
  exact hc j hj
/-- A slice of slices of whole numbers that came in. -/
theorem open_rows {t e q : TypeId} {k : IntKind} {r : Reach} {b0 : Nat} {v : Value} {d : DataW H} {ps : List MemPlace} (ht : P.underlying t = some (.slice e)) (he : P.underlying e = some (.slice q)) (hq : P.underlying q = some (.int k)) (ce : P.cellsOf e = 1) (cq : P.cellsOf q = 1)
    (hval : Value.okWide P W r b0 t v) (h : DataW.Trod enc P W 0 (fun _ => true) true t v d ps) (hlt : ∀ x ∈ ps, x.block < W.heap.size) :
    ∃ (A : Option Addr) (n c : Nat) (AA : Nat → Option Addr) (LL CC : Nat → Nat) (Z : Nat → Nat → Int), v = .slice A n c ∧ n ≤ c ∧ c ≤ maxLen ∧ Rd W W.heap.size A n (fun j => .slice (AA j) (LL j) (CC j)) ∧
      ∀ j, j < n → LL j ≤ CC j ∧ CC j ≤ maxLen ∧ Rd W W.heap.size (AA j) (LL j) (IntRow k (Z j)) ∧ ∀ i, i < LL j → (Lit.int k (Z j i)).wf = true := by
  obtain ⟨A, n, c, rfl⟩ := okWide_slice ht hval
  obtain ⟨fuel, hf⟩ := h
  rcases open_int_rows ht he hq ce cq hf with ⟨hcs, hx⟩ | ⟨a, len, cap, AA, LL, CC, Z, hcs, _, hl, hm, hx, hall⟩
  · simp [Value.cells] at hcs
    obtain ⟨rfl, rfl, rfl⟩ := hcs
    exact ⟨none, 0, 0, fun _ => none, fun _ => 0, fun _ => 0, fun _ _ => 0, rfl, Nat.le_refl _, Nat.zero_le _, Rd.zero, fun j hj => absurd hj (by omega)⟩
  · simp [Value.cells] at hcs
    obtain ⟨rfl, rfl, rfl⟩ := hcs
    simp only [Prod.mk.injEq] at hx
    obtain ⟨rfl, rfl⟩ := hx
    refine ⟨some a, n, c, AA, LL, CC, fun j i => (Z j).getD i 0, rfl, hl, hm, rd_of_places rfl (fun x hx => hlt x (List.mem_append_left _ hx)) hl (fun i hi => (hall i (by omega)).1), fun j hj => ?_⟩
    obtain ⟨_, h2, h3, h4, h5, h6, h7⟩ := hall j (by omega)
    refine ⟨h2, h3, ?_, fun i hi => ?_⟩
    · cases hA : AA j with
      | none =>
        have := h6 hA
        have hL0 : LL j = 0 := by omega
        rw [hL0]
        exact Rd.zero
      | some a' =>
        refine rd_of_places (len := (Z j).length) rfl (fun x hx => hlt x (List.mem_append_right _ (List.mem_flatMap.2 ⟨j, by simp; omega, by unfold intRowPlaces; rw [hA]; exact hx⟩))) (by omega) (fun i hi => ?_)
        exact (h7 a' hA).2 i (by omega)
    · have hi' : i < (Z j).length := by omega
      have e : (Z j).getD i 0 = (Z j)[i] := by simp [List.getD, hi']
      show (Lit.int k ((Z j).getD i 0)).wf = true
      rw [e]
      exact h5 _ (List.getElem_mem hi')
end
end Go.Proofs.Ytckochcocflleaa

/-
  Slices of values of k cells each: what a row reads as, append to an own row, what came in, opened.
-/
namespace Go.Proofs.Ytckochcocflleaa
open Go.RowKit Go.ChangeShapes Go.WideShapes Go.Deep
set_option linter.unusedVariables false
section
variable {P : Program} (w : World)
theorem run_append_k (base : Nat) (t ty e : TypeId) (i : TypeInfo) (z : Value) (k bytes : Nat) (ht : P.underlying t = some (.slice e)) (hi : P.info? e = some i) (hz : i.zero = some z)
    (hsize : i.size = k) (hby : i.bytes = bytes) (hzs : z.cells.size = k) (hk : 0 < k) (v : Value) (n : Nat) (xs : List Value) (hown : w.ownsRow base e k v n xs)
    (B : Nat) (A : Option Addr) (m c : Nat) (V : Nat → Value) (hr : Rd w B A (m * k) V) (h1 : ∀ u ∈ tab (m * k) V, u.oneCell' = true) (hbytes : (n + m) * bytes ≤ 140737488355328) (h63 : n + m ≤ maxLen) (hbase : base ≤ w.heap.size) :
    ∃ v' w', (Builtin.append_ #[t, t] ty #[v, .slice A m c]).run P w = .ok v' w' ∧ w'.ownsRow base e k v' (n + m) (xs ++ tab (m * k) V) ∧ w.grownBy w' v.ownBlock := by
  rcases A with _ | ad
  · have hm : m = 0 := by
      rcases Nat.eq_zero_or_pos m with h0 | h0
      · exact h0
      · obtain ⟨b, o, h, _⟩ := hr (Nat.mul_pos h0 hk); cases h
    subst hm
    refine ⟨v, w, ?_, by simpa [tab_zero] using hown, World.grownBy.refl w _⟩
    rcases hown.2 with ⟨rfl, hn⟩ | ⟨g, cap, cur, rfl, _, _, hnc, _⟩
    · subst hn
      simp [Builtin.append_, run_underlying ht, sizeOf, typeInfo, hi, Builtin.lenOf, Builtin.firstCells]
    · simp [Builtin.append_, run_underlying ht, sizeOf, typeInfo, hi, Builtin.lenOf, Builtin.firstCells, hnc, storeCells]
  · have hc : ∀ j u, (tab (m * k) V)[j]? = some u → w.cell? (ad.add j) = some u := by
      intro j u hu
      rw [tab_get] at hu
      split at hu
      · rename_i hj
        obtain ⟨b, o, h, _, hc⟩ := hr (by omega)
        injection h with h; subst h; injection hu with hu; subst hu
        rw [add_plain]
        exact hc j hj
      · cases hu
    obtain ⟨v', w', hrun, h2, h3, _⟩ := run_append_own (P := P) w base t ty e i z k bytes ht hi hz hsize hby hzs hk v n xs hown ad m c (tab (m * k) V) (by rw [tab_len]) hc h1 h63 hbytes hbase
    exact ⟨v', w', hrun, h2, h3⟩
theorem wpList_append_k {ops : Array Oper} {rest : List Oper} {o : Oper} {a : Act} {Q : Exit → Act → World → Prop} (hgd : o.guard = none) (s x : Operand) (t : TypeId)
    (ho : o.op = .call { callee := .builtin .append, args := #[s, x], argTypes := #[t, t] })
    (base : Nat) (e : TypeId) (i : TypeInfo) (z : Value) (k bytes : Nat) (ht : P.underlying t = some (.slice e)) (hi : P.info? e = some i) (hz : i.zero = some z)
    (hsize : i.size = k) (hby : i.bytes = bytes) (hzs : z.cells.size = k) (hk : 0 < k) (v : Value) (n : Nat) (xs : List Value) (hs : a.eval s = v) (hown : w.ownsRow base e k v n xs)
    (B : Nat) (A : Option Addr) (m c : Nat) (V : Nat → Value) (hx : a.eval x = .slice A m c) (hr : Rd w B A (m * k) V) (h1 : ∀ u ∈ tab (m * k) V, u.oneCell' = true) (hbytes : (n + m) * bytes ≤ 140737488355328) (h63 : n + m ≤ maxLen) (hbase : base ≤ w.heap.size)
    (h : ∀ v' w', w'.ownsRow base e k v' (n + m) (xs ++ tab (m * k) V) → w.grownBy w' v.ownBlock → wpList P ops Q rest (a.put o.dst v') w') :
    wpList P ops Q (o :: rest) a w := by
  refine wpList_plain hgd fun K hK => ?_
  obtain ⟨v', w', hr, h2, h3⟩ := run_append_k (P := P) w base t o.type e i z k bytes ht hi hz hsize hby hzs hk v n xs hown B A m c V hr h1 hbytes h63 hbase
  unfold Oper.wp execOp
  simp only [ho, resolve, invoke, builtin, Sem.run_bind, Sem.run_pure, Result.andThen_ok, List.map_toArray, List.map_cons, List.map_nil, hs, hx, hr]
  exact hK _ _ (h v' w' h2 h3)
end
/-- What an own row of such values, nil let in, reads as. -/
theorem own_k {w : World} {base : Nat} {e : TypeId} {v : Value} {n k : Nat} {V : Nat → Value} (hk : 0 < k) (h : w.ownsRow base e k v n (tab (n * k) V)) : ∃ A c, v = .slice A n c ∧ n ≤ c ∧ Rd w w.heap.size A (n * k) V ∧ (∀ q, v.ownBlock = some q → base ≤ q) := by
  have h' := h
  rcases h.2 with ⟨rfl, hn⟩ | ⟨g, cap, cur, rfl, hb, hh, hnc, _⟩
  · subst hn
    exact ⟨none, 0, rfl, Nat.le_refl _, by rw [Nat.zero_mul]; exact Rd.zero, fun q hq => by cases hq⟩
  · refine ⟨_, cap, rfl, hnc, fun hm => ⟨g, 0, rfl, ?_, fun j hj => ?_⟩, fun q hq => by simp [Value.ownBlock] at hq; omega⟩
    · rcases Nat.lt_or_ge g w.heap.size with hlt | hge
      · exact hlt
      · rw [Array.getElem?_eq_none hge] at hh; cases hh
    · have hcell := h'.cells (g := g) rfl
      rw [← add_plain]
      exact hcell j _ (by rw [tab_get, if_pos hj])
/-- An own row's cells. -/
theorem row_of_own_k {w : World} {base n k : Nat} {e : TypeId} {g cap : Nat} {V : Nat → Value} (hk : 0 < k) (h : w.ownsRow base e k (.slice (some ⟨g, 0, none⟩) n cap) n (tab (n * k) V)) : Row w g (n * k) V := by
  refine ⟨fun j hj => ?_, fun j => h.frozenAt j, ?_⟩
  · have hcell := h.cells (g := g) rfl j _ (by rw [tab_get, if_pos hj])
    rw [add_plain, Nat.zero_add] at hcell
    exact hcell
  · rcases h.2 with ⟨e1, _⟩ | ⟨g', c', cur, e1, _, hh, _⟩
    · cases e1
    · injection e1 with e1 _ _
      injection e1 with e1
      injection e1 with e1
      subst e1
      rcases Nat.lt_or_ge g w.heap.size with hlt | hge
      · exact hlt
      · rw [Array.getElem?_eq_none hge] at hh; cases hh
theorem own_since_k {w w' : World} {base n k : Nat} {e : TypeId} {v : Value} {xs : List Value} (h : w.ownsRow base e k v n xs) (s : Since w w') : w'.ownsRow base e k v n xs := by
  refine ⟨h.1, ?_⟩
  rcases h.2 with h0 | ⟨g, cap, cur, e1, hb, hh, r⟩
  · exact .inl h0
  · refine .inr ⟨g, cap, cur, e1, hb, ?_, r⟩
    have hlt : g < w.heap.size := by
      rcases Nat.lt_or_ge g w.heap.size with hlt | hge
      · exact hlt
      · rw [Array.getElem?_eq_none hge] at hh; cases hh
    rw [s.below.block g hlt]; exact hh
theorem tab_more (n m : Nat) (V : Nat → Value) : tab n V ++ tab m (fun t => V (n + t)) = tab (n + m) V := by
  rw [tab_append]
  refine tab_congr fun j hj => ?_
  by_cases h : j < n
  · rw [if_pos h]
  · rw [if_neg h, show n + (j - n) = j by omega]
theorem list_made (z : Array Value) (n : Nat) (V : Nat → Value) (hV : ∀ j, z[j % z.size]! = V j) : (madeCells z n).toList = tab n V := by
  apply List.ext_getElem?
  intro j
  rw [tab_get]
  by_cases hj : j < n
  · rw [if_pos hj]
    simp [madeCells, hj, hV]
  · rw [if_neg hj]
    simp [madeCells, hj]
section
variable {P : Program} (w : World)
/-- make([]T, n), T of k cells: an own row of zero values. -/
theorem wpList_make_k {ops : Array Oper} {rest : List Oper} {o : Oper} {a : Act} {Q : Exit → Act → World → Prop}
    (hg : o.guard = none) (l c : Operand) (t : TypeId) (hop : o.op = Op.makeSlice t l c)
    (e : TypeId) (i : TypeInfo) (z : Value) (k bytes : Nat) (h1 : P.underlying t = some (.slice e)) (h2 : P.info? e = some i) (h3 : i.zero = some z) (h4 : i.size = k) (h5 : i.bytes = bytes) (V : Nat → Value) (hV : ∀ j, z.cells[j % z.cells.size]! = V j)
    (kl kc : IntKind) (n : Nat) (hl : a.eval l = .int kl (n : Int)) (hc : a.eval c = .int kc (n : Int)) (b2 : bytes * n ≤ 281474976710656) (b3 : n ≤ maxLen)
    (hK : ∀ w', w'.ownsRow w.heap.size e k (.slice (some ⟨w.heap.size, 0, none⟩) n n) n (tab (n * k) V) → Since w w' → wpList P ops Q rest (a.put o.dst (.slice (some ⟨w.heap.size, 0, none⟩) n n)) w') :
    wpList P ops Q (o :: rest) a w := by
  refine wpList_make_full w hg l c t hop w.heap.size e i z k h1 h2 h3 h4 kl kc (n : Int) (n : Int) n hl hc rfl rfl (by rw [h5]; exact b2) b3 (Nat.le_refl _) (fun w' hown hgr => hK w' ?_ (since_grown (Since.refl w) hgr (fun k hk => by cases hk)))
  rw [list_made _ _ V hV] at hown
  exact hown
end
theorem rd_add_lit (a : Addr) (i j : Nat) : (a.add i).add j = a.add (i + j) := add_add a i j
/-- A new block that holds a value's cells, as a slice of one. -/
theorem rd_lit {w : World} {cs : Array Value} {t : TypeId} {b n : Nat} {V : Nat → Value} (hb : b = w.heap.size) (h : ∀ j, j < n → cs[j]? = some (V j)) : Rd (w.alloc (.cells cs t)) (w.alloc (.cells cs t)).heap.size (some ⟨b, 0, none⟩) n V := fun _ => by
  subst hb
  exact ⟨w.heap.size, 0, rfl, by simp, fun j hj => by rw [World.cell?_alloc_new, Nat.zero_add]; exact h j hj⟩
section
variable {H : Type} {enc : TypeId × Value → H} {P : Program} {W : World}
/-- A slice of values of k cells each that came in. -/
theorem open_flat {t e : TypeId} {k : Nat} {r : Reach} {b0 : Nat} {v : Value} {d : DataW H} {ps : List MemPlace} (ht : P.underlying t = some (.slice e)) (ce : P.cellsOf e = k) (hk : 0 < k)
    (hval : Value.okWide P W r b0 t v) (h : DataW.Trod enc P W 0 (fun _ => true) true t v d ps) (hlt : ∀ x ∈ ps, x.block < W.heap.size) :
    ∃ (A : Option Addr) (n c : Nat) (V : Nat → Value), v = .slice A n c ∧ n ≤ c ∧ c ≤ maxLen ∧ Rd W W.heap.size A (n * k) V ∧ (∀ i, i < n → ∃ m x, DataW.trod enc P W 0 (fun _ => true) true m e (tab k (fun j => V (i * k + j))) = some x) ∧ (c = 0 ∨ ∃ el sp, d = .slice el sp ∧ el.length + sp.length = c) := by
  obtain ⟨A, n, c, rfl⟩ := okWide_slice ht hval
  obtain ⟨fuel, hf⟩ := h
  rcases open_slice ht hf with ⟨hcs, hx⟩ | ⟨a, len, cap, m, z, D, Pl, hcs, _, hl, hm, hmm, hx, hall⟩
  · simp [Value.cells] at hcs
    obtain ⟨rfl, rfl, rfl⟩ := hcs
    exact ⟨none, 0, 0, fun _ => undef, rfl, Nat.le_refl _, Nat.zero_le _, by rw [Nat.zero_mul]; exact Rd.zero, fun j hj => absurd hj (by omega), .inl rfl⟩
  · simp [Value.cells] at hcs
    obtain ⟨rfl, rfl, rfl⟩ := hcs
    simp only [if_true] at hmm
    subst hmm
    simp only [Prod.mk.injEq] at hx
    obtain ⟨rfl, rfl⟩ := hx
    have each : ∀ j, j < m → ∃ cs : List Value, cs.length = k ∧ (∀ i, i < k → W.cell? (a.add (j * k + i)) = cs[i]?) ∧ ∃ m' x, DataW.trod enc P W 0 (fun _ => true) true m' e cs = some x := by
      intro j hj
      obtain ⟨cs', g1, g2⟩ := hall j hj
      rw [ce] at g1
      obtain ⟨_, hlen, hcell⟩ := World.cells?_some g1
      refine ⟨cs', hlen, fun i hi => ?_, _, _, g2⟩
      have c0 := hcell i (by omega)
      rw [add_add] at c0
      exact c0
    obtain ⟨q, hq⟩ := choose_lt each
    have hV : ∀ j, j < m → ∀ i, i < k → W.cell? (a.add (j * k + i)) = some ((q j).getD i undef) := fun j hj i hi => by
      obtain ⟨h1, h2, _⟩ := hq j hj
      rw [h2 i hi, List.getElem?_eq_getElem (by omega)]
      simp [List.getD, show i < (q j).length by omega]
    refine ⟨some a, n, m, fun j => (q (j / k)).getD (j % k) undef, rfl, hl, hm, ?_, fun i hi => ?_, .inr ⟨_, _, rfl, ?_⟩⟩
    · intro hn
      have hspot : a.spot = none := by
        have h0 := hV 0 (by rcases Nat.eq_zero_or_pos m with h0 | h0 <;> (try subst h0) <;> (try simp at hl) <;> (try subst hl) <;> (try simp at hn) <;> omega) 0 hk
        rw [Nat.zero_mul, Nat.add_zero] at h0
        cases hsp : a.spot with
        | none => rfl
        | some s =>
          have e : (a.add 0).spot = some s := by unfold Addr.add; split <;> simp_all
          simp only [World.cell?] at h0
          split at h0
          · simp [e] at h0
          · cases h0
      obtain ⟨b, o, s⟩ := a
      simp only at hspot
      subst hspot
      have hmk : 0 < m * k := Nat.lt_of_lt_of_le hn (Nat.mul_le_mul_right _ hl)
      refine ⟨b, o, rfl, hlt (.cell b (o + 0)) (List.mem_append_left _ (MemPlace.mem_row.2 ⟨0, by rw [ce]; exact hmk, rfl⟩)), fun j hj => ?_⟩
      have hjk : j / k < m := by rw [Nat.div_lt_iff_lt_mul hk]; exact Nat.lt_of_lt_of_le hj (Nat.mul_le_mul_right _ hl)
      have h1 := hV (j / k) hjk (j % k) (Nat.mod_lt _ hk)
      rw [Nat.div_add_mod' j k] at h1
      rw [← add_plain]
      exact h1
    · obtain ⟨h1, h2, m', x, h3⟩ := hq i (by omega)
      refine ⟨m', x, ?_⟩
      rw [← h3]
      congr 1
      apply List.ext_getElem?
      intro j
      rw [tab_get]
      split
      · rename_i hj
        have e1 : (i * k + j) / k = i := by rw [Nat.add_comm, Nat.add_mul_div_right _ _ hk, Nat.div_eq_of_lt hj, Nat.zero_add]
        have e2 : (i * k + j) % k = j := by rw [Nat.add_comm, Nat.add_mul_mod_self_right, Nat.mod_eq_of_lt hj]
        simp only [e1, e2]
        rw [List.getElem?_eq_getElem (by omega)]
        simp [List.getD, show j < (q i).length by omega]
      · rw [List.getElem?_eq_none (by omega)]
    · simp; omega
end
end Go.Proofs.Ytckochcocflleaa

/-
  Rows of elements of k cells each, told by a list of anything: own rows, rows that are read, append.
-/
namespace Go.Proofs.Ytckochcocflleaa
open Go.RowKit Go.ChangeShapes Go.WideShapes Go.Deep
set_option linter.unusedVariables false

section
variable {α : Type} {k : Nat} {enc : α → List Value}
def cellsG (enc : α → List Value) (L : List α) : List Value := L.flatMap enc
theorem cellsG_snoc (L : List α) (s : α) : cellsG enc (L ++ [s]) = cellsG enc L ++ enc s := by unfold cellsG; simp
theorem cellsG_append (L M : List α) : cellsG enc (L ++ M) = cellsG enc L ++ cellsG enc M := by unfold cellsG; simp
theorem cellsG_len (hk : ∀ a, (enc a).length = k) : ∀ L : List α, (cellsG enc L).length = L.length * k
  | [] => by simp [cellsG]
  | s :: L => by
    have ih := cellsG_len hk L
    unfold cellsG at ih ⊢
    rw [List.flatMap_cons, List.length_append, ih, List.length_cons, hk, Nat.succ_mul, Nat.add_comm]
theorem cellsG_get (hk : ∀ a, (enc a).length = k) : ∀ (L : List α) (j : Nat) (s : α), L[j]? = some s → ∀ i, i < k → (cellsG enc L)[j * k + i]? = (enc s)[i]?
  | [], j, s, h, i, hi => by simp at h
  | a :: L, 0, s, h, i, hi => by
    simp only [List.getElem?_cons_zero, Option.some.injEq] at h
    subst h
    unfold cellsG
    rw [List.flatMap_cons, Nat.zero_mul, Nat.zero_add, List.getElem?_append_left (by rw [hk]; exact hi)]
  | a :: L, j + 1, s, h, i, hi => by
    rw [List.getElem?_cons_succ] at h
    have ih := cellsG_get hk L j s h i hi
    unfold cellsG at ih ⊢
    have e : (j + 1) * k + i = k + (j * k + i) := by rw [Nat.succ_mul]; omega
    rw [List.flatMap_cons, e, List.getElem?_append_right (by rw [hk]; omega), hk, Nat.add_sub_cancel_left]
    exact ih
theorem cellsG_tab (hk : ∀ a, (enc a).length = k) (L : List α) : cellsG enc L = tab (L.length * k) (fun j => (cellsG enc L).getD j undef) := by
  apply List.ext_getElem?
  intro j
  rw [tab_get]
  split
  · rename_i h
    rw [List.getD_eq_getElem?_getD, List.getElem?_eq_getElem (by rw [cellsG_len hk]; exact h)]
    rfl
  · rename_i h
    rw [List.getElem?_eq_none (by rw [cellsG_len hk]; omega)]
/-- A slice's elements, in a block below B (nil and empty let in). -/
def RdG (k : Nat) (enc : α → List Value) (w : World) (B : Nat) (A : Option Addr) (L : List α) : Prop :=
  0 < L.length → ∃ b o, A = some ⟨b, o, none⟩ ∧ b < B ∧ ∀ j s, L[j]? = some s → ∀ i, i < k → w.cell? ⟨b, o + j * k + i, none⟩ = some ((enc s).getD i undef)
/-- An own row of such elements. -/
def OwnG (t : TypeId) (k : Nat) (enc : α → List Value) (w : World) (base : Nat) (v : Value) (L : List α) : Prop := w.ownsRow base t k v L.length (cellsG enc L)
section
variable {w w' : World} {B B' n : Nat} {A : Option Addr} {L : List α} {t : TypeId} {base : Nat} {v : Value}
theorem RdG.nil : RdG k enc w B A [] := fun h => absurd h (by simp)
theorem RdG.keep (h : RdG k enc w B A L) (hk : ∀ b o, b < B → w'.cell? ⟨b, o, none⟩ = w.cell? ⟨b, o, none⟩) : RdG k enc w' B A L := fun hn => by
  obtain ⟨b, o, rfl, hb, hc⟩ := h hn
  exact ⟨b, o, rfl, hb, fun j s hj i hi => (hk _ _ hb).trans (hc j s hj i hi)⟩
theorem RdG.more (h : RdG k enc w B A L) (hB : B ≤ B') : RdG k enc w B' A L := fun hn => by
  obtain ⟨b, o, rfl, hb, hc⟩ := h hn
  exact ⟨b, o, rfl, by omega, hc⟩
theorem RdG.since (h : RdG k enc w B A L) (hB : B ≤ w.heap.size) (s : Since w w') : RdG k enc w' B A L := h.keep fun b o hb => s.1 b o (by omega)
theorem RdG.on (h : RdG k enc w w.heap.size A L) (s : Since w w') : RdG k enc w' w'.heap.size A L := (h.keep fun b o hb => s.1 b o hb).more s.below.size
theorem OwnG.nil (t : TypeId) (k : Nat) (enc : α → List Value) (w : World) (base : Nat) : OwnG t k enc w base (.slice none 0 0) [] := World.ownsRow_nil _ _ _ _
theorem OwnG.since (h : OwnG t k enc w base v L) (s : Since w w') : OwnG t k enc w' base v L := own_since_k (n := L.length) h s
theorem OwnG.alloc (h : OwnG t k enc w base v L) (o : Obj) : OwnG t k enc (w.alloc o) base v L := h.since ((Since.refl w).alloc o)
theorem OwnG.keep (h : OwnG t k enc w base v L) (hk : ∀ b, base ≤ b → b < w.heap.size → w'.heap[b]? = w.heap[b]?) : OwnG t k enc w' base v L := by
  refine ⟨h.1, ?_⟩
  rcases h.2 with h0 | ⟨g, cap, cur, e1, hb, hh, r⟩
  · exact .inl h0
  · refine .inr ⟨g, cap, cur, e1, hb, ?_, r⟩
    have hlt : g < w.heap.size := by
      rcases Nat.lt_or_ge g w.heap.size with hlt | hge
      · exact hlt
      · rw [Array.getElem?_eq_none hge] at hh; cases hh
    rw [hk g hb hlt]; exact hh
theorem OwnG.lt (h : OwnG t k enc w base v L) {g : Nat} (hg : v.ownBlock = some g) : base ≤ g ∧ g < w.heap.size := by
  rcases h.2 with ⟨rfl, _⟩ | ⟨g', c', cur, rfl, hb, hh, _⟩
  · cases hg
  · simp only [Value.ownBlock, Option.some.injEq] at hg
    subst hg
    rcases Nat.lt_or_ge g' w.heap.size with hlt | hge
    · exact ⟨hb, hlt⟩
    · rw [Array.getElem?_eq_none hge] at hh; cases hh
/-- .. kept where another block is grown. -/
theorem OwnG.grown {row : Option Nat} (h : OwnG t k enc w base v L) (hg : w.grownBy w' row) (hb : ∀ q, v.ownBlock = some q → row ≠ some q) : OwnG t k enc w' base v L := by
  refine ⟨h.1, ?_⟩
  rcases h.2 with h0 | ⟨g, cap, cur, rfl, hb', hh, r⟩
  · exact .inl h0
  · refine .inr ⟨g, cap, cur, rfl, hb', ?_, r⟩
    have hlt : g < w.heap.size := by
      rcases Nat.lt_or_ge g w.heap.size with hlt | hge
      · exact hlt
      · rw [Array.getElem?_eq_none hge] at hh; cases hh
    rw [hg.block g hlt (fun e => hb g rfl e.symm)]; exact hh
/-- What an own row reads as. -/
theorem OwnG.rd (hk0 : 0 < k) (hk : ∀ a, (enc a).length = k) (h : OwnG t k enc w base v L) : ∃ A c, v = .slice A L.length c ∧ L.length ≤ c ∧ RdG k enc w w.heap.size A L := by
  unfold OwnG at h
  rw [cellsG_tab hk] at h
  obtain ⟨A, c, rfl, hc, hr, _⟩ := own_k hk0 h
  refine ⟨A, c, rfl, hc, fun hn => ?_⟩
  obtain ⟨b, o, rfl, hb, hcell⟩ := hr (Nat.mul_pos hn hk0)
  refine ⟨b, o, rfl, hb, fun j s hj i hi => ?_⟩
  have hjl : j < L.length := by
    rcases Nat.lt_or_ge j L.length with h | h
    · exact h
    · rw [List.getElem?_eq_none h] at hj; cases hj
  have hlt : j * k + i < L.length * k := by
    have h1 : (j + 1) * k ≤ L.length * k := Nat.mul_le_mul_right _ hjl
    rw [Nat.succ_mul] at h1
    omega
  have h1 : w.cell? ⟨b, o + (j * k + i), none⟩ = some ((cellsG enc L).getD (j * k + i) undef) := hcell (j * k + i) hlt
  rw [List.getD_eq_getElem?_getD, cellsG_get hk L j s hj i hi, ← List.getD_eq_getElem?_getD, ← Nat.add_assoc] at h1
  exact h1
end
section
variable {P : Program}
/-- append of a slice to an own row. -/
theorem wpList_append_g {w : World} {ops : Array Oper} {rest : List Oper} {o : Oper} {a : Act} {Q : Exit → Act → World → Prop} (hgd : o.guard = none) (s x : Operand) (t e : TypeId)
    (ho : o.op = .call { callee := .builtin .append, args := #[s, x], argTypes := #[t, t] }) (hk0 : 0 < k) (hk : ∀ a, (enc a).length = k) (h1 : ∀ a, ∀ u ∈ enc a, u.oneCell' = true) (bytes : Nat)
    (ht : P.underlying t = some (.slice e)) (hinfo : ∃ i z, P.info? e = some i ∧ i.zero = some z ∧ i.size = k ∧ i.bytes = bytes ∧ z.cells.size = k)
    (base : Nat) (v : Value) (L : List α) (hs : a.eval s = v) (hown : OwnG e k enc w base v L) (B : Nat) (A : Option Addr) (c : Nat) (M : List α) (hx : a.eval x = .slice A M.length c) (hr : RdG k enc w B A M)
    (hbytes : (L.length + M.length) * bytes ≤ 140737488355328) (h63 : L.length + M.length ≤ maxLen) (hbase : base ≤ w.heap.size)
    (h : ∀ v' w', OwnG e k enc w' base v' (L ++ M) → w.grownBy w' v.ownBlock → (∀ q, v.ownBlock = some q → base ≤ q ∧ q < w.heap.size) → wpList P ops Q rest (a.put o.dst v') w') :
    wpList P ops Q (o :: rest) a w := by
  obtain ⟨i, z, hi, hz, hsz, hby, hzs⟩ := hinfo
  have hrr : Rd w B A (M.length * k) (fun j => (cellsG enc M).getD j undef) := fun hn => by
    have hM : 0 < M.length := by
      rcases Nat.eq_zero_or_pos M.length with h | h
      · rw [h, Nat.zero_mul] at hn; omega
      · exact h
    obtain ⟨b, o', rfl, hb, hc⟩ := hr hM
    refine ⟨b, o', rfl, hb, fun j hj => ?_⟩
    have hjk : j / k < M.length := by rw [Nat.div_lt_iff_lt_mul hk0]; exact hj
    have hm := Nat.mod_lt j hk0
    have hg := hc (j / k) _ (List.getElem?_eq_getElem hjk) (j % k) hm
    have hg2 := cellsG_get hk M (j / k) _ (List.getElem?_eq_getElem hjk) (j % k) hm
    rw [Nat.div_add_mod' j k] at hg2
    rw [Nat.add_assoc, Nat.div_add_mod' j k] at hg
    show _ = some ((cellsG enc M).getD j undef)
    rw [List.getD_eq_getElem?_getD, hg2, ← List.getD_eq_getElem?_getD]
    exact hg
  have hone : ∀ u ∈ tab (M.length * k) (fun j => (cellsG enc M).getD j undef), u.oneCell' = true := by
    rw [← cellsG_tab hk]
    intro u hu
    unfold cellsG at hu
    rw [List.mem_flatMap] at hu
    obtain ⟨a, _, ha⟩ := hu
    exact h1 a u ha
  have hlt := fun q (hq : v.ownBlock = some q) => hown.lt hq
  refine wpList_append_k w hgd s x t ho base e i z k bytes ht hi hz hsz hby hzs hk0 v L.length (cellsG enc L) hs hown B A M.length c _ hx hrr hone hbytes h63 hbase (fun v' w' h9 hg => h v' w' ?_ hg hlt)
  rw [← cellsG_tab hk, ← cellsG_append] at h9
  unfold OwnG
  rw [List.length_append]
  exact h9
end
/-- A new block that holds one element's cells. -/
theorem rdG_one {w : World} {cs : Array Value} {ty : TypeId} {b : Nat} (hb : b = w.heap.size) (s : α) (h : ∀ i, i < k → cs[i]? = some ((enc s).getD i undef)) : RdG k enc (w.alloc (.cells cs ty)) (w.alloc (.cells cs ty)).heap.size (some ⟨b, 0, none⟩) [s] := fun _ => by
  subst hb
  refine ⟨w.heap.size, 0, rfl, by simp, fun j s' hj i hi => ?_⟩
  cases j with
  | zero =>
    simp only [List.getElem?_cons_zero, Option.some.injEq] at hj
    subst hj
    rw [World.cell?_alloc_new, Nat.zero_mul, Nat.zero_add]
    exact h i hi
  | succ j => simp at hj
/-- .. and of some elements. -/
theorem rdG_lit {w : World} {cs : Array Value} {ty : TypeId} {b : Nat} (hb : b = w.heap.size) (L : List α) (h : ∀ j s, L[j]? = some s → ∀ i, i < k → cs[0 + j * k + i]? = some ((enc s).getD i undef)) : RdG k enc (w.alloc (.cells cs ty)) (w.alloc (.cells cs ty)).heap.size (some ⟨b, 0, none⟩) L := fun _ => by
  subst hb
  refine ⟨w.heap.size, 0, rfl, by simp, fun j s hj i hi => ?_⟩
  rw [World.cell?_alloc_new]
  exact h j s hj i hi
end
theorem Row.grownB {w w' : World} {b n : Nat} {row : Option Nat} {f : Nat → Value} (h : Row w b n f) (hg : w.grownBy w' row) (hb : row ≠ some b) : Row w' b n f := by
  have e := hg.block b h.2.2 (fun x => hb x.symm)
  refine ⟨fun j hj => ?_, fun j => ?_, Nat.lt_of_lt_of_le h.2.2 hg.size⟩
  · rw [← h.1 j hj]; simp only [World.cell?, e]
  · rw [← h.2.1 j]; simp only [World.frozen?, e]
theorem cell_grown {w w' : World} {b o : Nat} {row : Option Nat} {v : Value} (h : w.cell? ⟨b, o, none⟩ = some v) (hb : b < w.heap.size) (hg : w.grownBy w' row) (hr : row ≠ some b) : w'.cell? ⟨b, o, none⟩ = some v := by
  have e := hg.block b hb (fun x => hr x.symm)
  rw [← h]; simp only [World.cell?, e]
end Go.Proofs.Ytckochcocflleaa

/-
  Lists of points: what they are in memory, a point more where it isn't the last one, a captured list.
-/
namespace Go.Proofs.Ytckochcocflleaa
open Go.RowKit Go.ChangeShapes Go.WideShapes Go.Deep
set_option linter.unusedVariables false

/-- A point. -/
structure Pq where
  (x y : Int)
def ptL (p : Pq) : List Value := [.int .i64 p.x, .int .i64 p.y]
theorem ptL_len (p : Pq) : (ptL p).length = 2 := rfl
theorem ptL_one (p : Pq) : ∀ u ∈ ptL p, u.oneCell' = true := by
  intro u hu
  simp only [ptL, List.mem_cons, List.not_mem_nil, or_false] at hu
  rcases hu with rfl | rfl <;> rfl
def addP (L : List Pq) (p : Pq) : List Pq := match L.getLast? with
  | some l => if l.x == p.x && l.y == p.y then L else L ++ [p]
  | none => L ++ [p]
theorem infoPt0 : (Try.prog.info? 34).map (fun i => (i.zero, i.size, i.bytes)) = some (some (.agg #[.int .i64 0, .int .i64 0]), 2, 16) := by kernel_rfl
theorem infoPt : ∃ i z, Try.prog.info? 34 = some i ∧ i.zero = some z ∧ i.size = 2 ∧ i.bytes = 16 ∧ z.cells.size = 2 := by
  obtain ⟨i0, hi, hz0, hz1, hz2⟩ := info_parts infoPt0
  exact ⟨i0, _, hi, hz0, hz1, hz2, rfl⟩
theorem pt_one (w : World) (b : Nat) (hb : b = w.heap.size) (ty : TypeId) (p : Pq) : RdG 2 ptL (w.alloc (.cells #[.int .i64 p.x, .int .i64 p.y] ty)) (w.alloc (.cells #[.int .i64 p.x, .int .i64 p.y] ty)).heap.size (some ⟨b, 0, none⟩) [p] :=
  rdG_one hb p (fun i hi => by
    have h : i = 0 ∨ i = 1 := by omega
    rcases h with rfl | rfl <;> rfl)
def lastNe (L : List Pq) (p : Pq) : Bool := match L.getLast? with
  | some l => !(l.x == p.x && l.y == p.y)
  | none => true
theorem addP_eq (L : List Pq) (p : Pq) : addP L p = if lastNe L p then L ++ [p] else L := by
  unfold addP lastNe
  cases L.getLast? with
  | none => rfl
  | some l => by_cases h1 : l.x = p.x <;> by_cases h2 : l.y = p.y <;> simp [h1, h2]
/-- A captured list of points. -/
def CapP (w0 w : World) (bl : Nat) (L : List Pq) : Prop := ∃ v, w.heap[bl]? = some (Obj.cells #[v] 49 (0, 0)) ∧ OwnG 34 2 ptL w (bl + 1) v L ∧ Since w0 w ∧ w0.heap.size ≤ bl
theorem CapP.since {w0 w w' : World} {bl : Nat} {L : List Pq} (h : CapP w0 w bl L) (k : Since w w') : CapP w0 w' bl L := by
  obtain ⟨v, h1, h2, h3, h4⟩ := h
  have hlt : bl < w.heap.size := by
    rcases Nat.lt_or_ge bl w.heap.size with h | h
    · exact h
    · rw [Array.getElem?_eq_none h] at h1; cases h1
  exact ⟨v, (k.below.block bl hlt).trans h1, h2.since k, h3.trans k, h4⟩
/-- A row of another type is not the own block. -/
theorem OwnG.ne {α : Type} {enc : α → List Value} {t t' : TypeId} {k base b : Nat} {w : World} {v : Value} {L : List α} {cs : Array Value} (h : OwnG t k enc w base v L) (hne : t ≠ t') (hb : w.heap[b]? = some (Obj.cells cs t' (0, 0))) : v.ownBlock ≠ some b := by
  rcases h.2 with ⟨rfl, _⟩ | ⟨g, cap, cur, rfl, hb', hh, r⟩
  · simp [Value.ownBlock]
  · intro e
    simp only [Value.ownBlock, Option.some.injEq] at e
    subst e
    rw [hb] at hh
    simp only [Option.some.injEq, Obj.cells.injEq] at hh
    exact hne hh.2.1.symm
theorem OwnG.lower' {α : Type} {enc : α → List Value} {t : TypeId} {k base base' : Nat} {w : World} {v : Value} {L : List α} (h : OwnG t k enc w base v L) (hb : base' ≤ base) : OwnG t k enc w base' v L := by
  refine ⟨h.1, ?_⟩
  rcases h.2 with h0 | ⟨g, cap, cur, e1, hb', r⟩
  · exact .inl h0
  · exact .inr ⟨g, cap, cur, e1, by omega, r⟩
theorem addP_len (L : List Pq) (p : Pq) : (addP L p).length ≤ L.length + 1 := by
  rw [addP_eq]
  split <;> simp
end Go.Proofs.Ytckochcocflleaa

/-
  Layer 16: the order of points that the sort is handed, walked to the world that it leaves.
-/
namespace Go.Proofs.Ytckochcocflleaa
open Go.RowKit
set_option linter.unusedVariables false

def orI (x y : Int) : Int := if x = 0 then y else x
set_option maxHeartbeats 2000000 in
theorem PtAt.drew {w : World} {b : Nat} {x y : Int} (h : PtAt w b x y) : PtAt w.drew b x y := h
theorem or_two (x y : Int) (w : World) (b : Nat) (h : PtAt w b x y) : Calls Try.prog 70 #[.slice (some ⟨b, 0, none⟩) 2 2] w fun e w' => e = .returned (.int .i64 (orI x y)) ∧ w' = w := by
  obtain ⟨c1, c2, c3⟩ := h
  unfold orI
  by_cases hx : x = 0
  · rw [if_pos hx]
    subst hx
    by_cases hy : y = 0
    · subst hy
      go_enter Try.func70, Try.ntmps70
      go_wp2
      refine wp_loop_rounds 3 ?_
      rw [rounds_succ]
      go_wp2_with fail
      rw [rounds_succ]
      go_wp2_with fail
      rw [rounds_succ]
      go_wp2_with fail
      go_ret
      exact ⟨rfl, rfl⟩
    · have q1 : (y == 0) = false := by simp [hy]
      have q2 : (y != 0) = true := by simp [hy]
      go_enter Try.func70, Try.ntmps70
      go_wp2
      refine wp_loop_rounds 3 ?_
      rw [rounds_succ]
      go_wp2_with fail
      rw [rounds_succ]
      go_wp2_with fail
      go_ret
      exact ⟨rfl, rfl⟩
  · rw [if_neg hx]
    have q1 : (x == 0) = false := by simp [hx]
    have q2 : (x != 0) = true := by simp [hx]
    go_enter Try.func70, Try.ntmps70
    go_wp2
    refine wp_loop_rounds 3 ?_
    rw [rounds_succ]
    go_wp2_with fail
    go_ret
    exact ⟨rfl, rfl⟩
/-- The order of points: by x, then by y. -/
def cmpP (p q : Pq) : Int := orI (cmpI p.x q.x) (cmpI p.y q.y)
set_option maxRecDepth 100000 in
set_option maxHeartbeats 4000000 in
theorem px_bypt (p q : Pq) (w : World) :
    Calls Try.prog 69 #[.agg #[.int .i64 p.x, .int .i64 p.y], .agg #[.int .i64 q.x, .int .i64 q.y]] w fun e w' => e = .returned (.int .i64 (cmpP p q)) ∧ Gr w w' := by
  obtain ⟨x, y⟩ := p
  obtain ⟨u, v⟩ := q
  unfold cmpP
  simp only
  have h1 := fun w => cmp_int x u w
  have h2 := fun w => cmp_int y v w
  have hO := fun w b h => or_two (cmpI x u) (cmpI y v) w b h
  generalize cmpI x u = A at *
  generalize cmpI y v = B at *
  generalize orI A B = R at *
  have H1 := Lib.hid h1; have H2 := Lib.hid h2; have HO := Lib.hid hO
  clear h1 h2 hO
  go_enter Try.func69, Try.ntmps69
  go_upto_region 1 with fail
  refine wp_named fun wq hwq => ?_
  have hG : Gr w wq := by subst hwq; exact ((Gr.refl w).alloc _).alloc _
  have hA : PtAt wq w.heap.size x y := by subst hwq; exact (pt_new w _ rfl x y _).alloc _
  have hB : PtAt wq (w.heap.size + 1) u v := by subst hwq; exact pt_new _ (w.heap.size + 1) (by simp) u v _
  obtain ⟨a1, a2, a3⟩ := hA
  obtain ⟨b1, b2, b3⟩ := hB
  clear hwq
  have HG := Lib.hid hG
  clear hG
  have tok7 : True := trivial
  have tok8 : True := trivial
  (refine wp_named fun wr1 hwr1 => ?_; go_region_held3 (fun w' => (∀ b o, b < wr1.heap.size → w'.cell? ⟨b, o, none⟩ = wr1.cell? ⟨b, o, none⟩) ∧ (∀ b o, b < wr1.heap.size → w'.frozen? ⟨b, o, none⟩ = wr1.frozen? ⟨b, o, none⟩) ∧ (∀ k, k < wr1.heap.size → k < w'.heap.size) ∧ Below wr1.heap.size wr1 w' ∧ Gr wr1 w') ((subst hwr1; first | with_reducible assumption | (refine gr_step (by with_reducible assumption) ?_; first | with_reducible assumption | ((repeat (first | with_reducible (exact Gr.refl _) | with_reducible assumption | with_reducible (refine Gr.drew ?_) | with_reducible (refine Gr.drewN ?_ _) | with_reducible (refine Gr.alloc ?_ _))); done)) | (refine gr_step (gr_start _) ?_; first | with_reducible assumption | ((repeat (first | with_reducible (exact Gr.refl _) | with_reducible assumption | with_reducible (refine Gr.drew ?_) | with_reducible (refine Gr.drewN ?_ _) | with_reducible (refine Gr.alloc ?_ _) | (with_reducible (refine Gr.trans ?_ (by with_reducible assumption))))); done)))) (first | (go_at_call 71; have _t := tok7; (with_reducible refine (H1.out _).mono ?_); rintro e w1 ⟨rfl, rfl⟩; clear tok7) | (go_at_call 71; have _t := tok8; (with_reducible refine (H2.out _).mono ?_); rintro e w1 ⟨rfl, rfl⟩; clear tok8) | (go_at_call 70; (with_reducible refine (HO.out _ _ (by first | with_reducible (exact pt_new _ _ rfl _ _ _) | with_reducible (exact PtAt.drew (pt_new _ _ rfl _ _ _)))).mono ?_); rintro e w1 ⟨rfl, rfl⟩)); all_goals (rename_i hHeld; obtain ⟨hcR1, hfR1, hzR1, hbR1, hgR1⟩ := hHeld; subst hwr1))
  all_goals go_wp2_with fail
  all_goals go_ret
  all_goals exact ⟨rfl, HG.out.trans (by (repeat (first | with_reducible (exact Gr.refl _) | with_reducible assumption | with_reducible (refine Gr.drew ?_) | with_reducible (refine Gr.drewN ?_ _) | with_reducible (refine Gr.alloc ?_ _) | (with_reducible (refine Gr.trans ?_ (by with_reducible assumption))))))⟩
end Go.Proofs.Ytckochcocflleaa

/-
  The library's slices.SortFunc at points and at lines: the numbers of its functions, and that their bodies are the library's.
-/
namespace Go.Proofs.Ytckochcocflleaa
open Go.Shelf
def sortPt_ren : Go.Shelf.Ren := ⟨fun | 6 => 68 | 15 => 99 | 14 => 98 | 28 => 114 | 29 => 115 | 20 => 106 | 21 => 107 | 22 => 108 | 23 => 109 | 24 => 110 | 25 => 111 | 26 => 112 | 27 => 113 | 46 => 130 | 47 => 131 | 48 => 132 | 49 => 133 | 50 => 134 | 57 => 146 | n => n, fun | 22 => 49 | 24 => 34 | 25 => 70 | 3 => 3 | 39 => 30 | 0 => 0 | 53 => 66 | 55 => 22 | 4 => 4 | 46 => 143 | 45 => 142 | 50 => 131 | 5 => 5 | 9 => 9 | 66 => 164 | 70 => 168 | 76 => 178 | 77 => 179 | n => n, fun | n => n⟩
theorem sortPt : Go.Proofs.SlLaysF0.n6 Try.prog sortPt_ren := {
  mixed := by kernel_rfl
  f6 := ⟨Try.f68.name, by decide, Try.func68.trans (congrArg some (by kernel_rfl))⟩
  f14 := ⟨Try.f98.name, by decide, Try.func98.trans (congrArg some (by kernel_rfl))⟩
  f15 := Try.func99.trans (congrArg some (by kernel_rfl))
  f20 := ⟨Try.f106.name, by decide, Try.func106.trans (congrArg some (by kernel_rfl))⟩
  f21 := ⟨Try.f107.name, by decide, Try.func107.trans (congrArg some (by kernel_rfl))⟩
  f22 := ⟨Try.f108.name, by decide, Try.func108.trans (congrArg some (by kernel_rfl))⟩
  f23 := ⟨Try.f109.name, by decide, Try.func109.trans (congrArg some (by kernel_rfl))⟩
  f24 := ⟨Try.f110.name, by decide, Try.func110.trans (congrArg some (by kernel_rfl))⟩
  f25 := ⟨Try.f111.name, by decide, Try.func111.trans (congrArg some (by kernel_rfl))⟩
  f26 := ⟨Try.f112.name, by decide, Try.func112.trans (congrArg some (by kernel_rfl))⟩
  f27 := ⟨Try.f113.name, by decide, Try.func113.trans (congrArg some (by kernel_rfl))⟩
  f28 := Try.func114.trans (congrArg some (by kernel_rfl))
  f29 := Try.func115.trans (congrArg some (by kernel_rfl))
  f46 := ⟨Try.f130.name, by decide, Try.func130.trans (congrArg some (by kernel_rfl))⟩
  f47 := Try.func131.trans (congrArg some (by kernel_rfl))
  f48 := Try.func132.trans (congrArg some (by kernel_rfl))
  f49 := ⟨Try.f133.name, by decide, Try.func133.trans (congrArg some (by kernel_rfl))⟩
  f50 := ⟨Try.f134.name, by decide, Try.func134.trans (congrArg some (by kernel_rfl))⟩
  f57 := ⟨Try.f146.name, by decide, Try.func146.trans (congrArg some (by kernel_rfl))⟩
  t0 := Try.underlying0
  a0 := Try.isAgg0
  z0 := Try.sizeOf0
  v0 := Try.zeroValue0
  t3 := Try.underlying3
  a3 := Try.isAgg3
  z3 := Try.sizeOf3
  v3 := Try.zeroValue3
  t4 := Try.underlying4
  a4 := Try.isAgg4
  z4 := Try.sizeOf4
  v4 := Try.zeroValue4
  t5 := Try.underlying5
  a5 := Try.isAgg5
  z5 := Try.sizeOf5
  v5 := Try.zeroValue5
  t9 := Try.underlying9
  a9 := Try.isAgg9
  z9 := Try.sizeOf9
  v9 := Try.zeroValue9
  t22 := Try.underlying49
  a22 := Try.isAgg49
  z22 := Try.sizeOf49
  v22 := Try.zeroValue49
  t25 := Try.underlying70
  a25 := Try.isAgg70
  z25 := Try.sizeOf70
  v25 := Try.zeroValue70
  t39 := Try.underlying30
  a39 := Try.isAgg30
  z39 := Try.sizeOf30
  v39 := Try.zeroValue30
  t45 := Try.underlying142
  a45 := Try.isAgg142
  z45 := Try.sizeOf142
  v45 := Try.zeroValue142
  t46 := Try.underlying143
  a46 := Try.isAgg143
  z46 := Try.sizeOf143
  v46 := Try.zeroValue143
  t50 := Try.underlying131
  a50 := Try.isAgg131
  z50 := Try.sizeOf131
  v50 := Try.zeroValue131
  t53 := Try.underlying66
  a53 := Try.isAgg66
  z53 := Try.sizeOf66
  v53 := Try.zeroValue66
  t55 := Try.underlying22
  a55 := Try.isAgg22
  z55 := Try.sizeOf22
  v55 := Try.zeroValue22
  t66 := Try.underlying164
  a66 := Try.isAgg164
  z66 := Try.sizeOf164
  v66 := Try.zeroValue164
  t70 := Try.underlying168
  a70 := Try.isAgg168
  z70 := Try.sizeOf168
  v70 := Try.zeroValue168
  t76 := Try.underlying178
  a76 := Try.isAgg178
  z76 := Try.sizeOf178
  v76 := Try.zeroValue178
  t77 := Try.underlying179
  a77 := Try.isAgg179
  z77 := Try.sizeOf179
  v77 := Try.zeroValue179 }
def sortLn_ren : Go.Shelf.Ren := ⟨fun | 6 => 90 | 15 => 99 | 14 => 103 | 28 => 114 | 29 => 115 | 20 => 120 | 21 => 121 | 22 => 122 | 23 => 123 | 24 => 124 | 25 => 125 | 26 => 126 | 27 => 127 | 46 => 140 | 47 => 131 | 48 => 132 | 49 => 141 | 50 => 142 | 57 => 148 | n => n, fun | 22 => 48 | 24 => 38 | 25 => 127 | 3 => 3 | 39 => 30 | 0 => 0 | 53 => 66 | 55 => 22 | 4 => 4 | 46 => 143 | 45 => 142 | 50 => 131 | 5 => 5 | 9 => 9 | 66 => 164 | 70 => 168 | 76 => 178 | 77 => 179 | n => n, fun | n => n⟩
theorem sortLn : Go.Proofs.SlLaysF0.n6 Try.prog sortLn_ren := {
  mixed := by kernel_rfl
  f6 := ⟨Try.f90.name, by decide, Try.func90.trans (congrArg some (by kernel_rfl))⟩
  f14 := ⟨Try.f103.name, by decide, Try.func103.trans (congrArg some (by kernel_rfl))⟩
  f15 := Try.func99.trans (congrArg some (by kernel_rfl))
  f20 := ⟨Try.f120.name, by decide, Try.func120.trans (congrArg some (by kernel_rfl))⟩
  f21 := ⟨Try.f121.name, by decide, Try.func121.trans (congrArg some (by kernel_rfl))⟩
  f22 := ⟨Try.f122.name, by decide, Try.func122.trans (congrArg some (by kernel_rfl))⟩
  f23 := ⟨Try.f123.name, by decide, Try.func123.trans (congrArg some (by kernel_rfl))⟩
  f24 := ⟨Try.f124.name, by decide, Try.func124.trans (congrArg some (by kernel_rfl))⟩
  f25 := ⟨Try.f125.name, by decide, Try.func125.trans (congrArg some (by kernel_rfl))⟩
  f26 := ⟨Try.f126.name, by decide, Try.func126.trans (congrArg some (by kernel_rfl))⟩
  f27 := ⟨Try.f127.name, by decide, Try.func127.trans (congrArg some (by kernel_rfl))⟩
  f28 := Try.func114.trans (congrArg some (by kernel_rfl))
  f29 := Try.func115.trans (congrArg some (by kernel_rfl))
  f46 := ⟨Try.f140.name, by decide, Try.func140.trans (congrArg some (by kernel_rfl))⟩
  f47 := Try.func131.trans (congrArg some (by kernel_rfl))
  f48 := Try.func132.trans (congrArg some (by kernel_rfl))
  f49 := ⟨Try.f141.name, by decide, Try.func141.trans (congrArg some (by kernel_rfl))⟩
  f50 := ⟨Try.f142.name, by decide, Try.func142.trans (congrArg some (by kernel_rfl))⟩
  f57 := ⟨Try.f148.name, by decide, Try.func148.trans (congrArg some (by kernel_rfl))⟩
  t0 := Try.underlying0
  a0 := Try.isAgg0
  z0 := Try.sizeOf0
  v0 := Try.zeroValue0
  t3 := Try.underlying3
  a3 := Try.isAgg3
  z3 := Try.sizeOf3
  v3 := Try.zeroValue3
  t4 := Try.underlying4
  a4 := Try.isAgg4
  z4 := Try.sizeOf4
  v4 := Try.zeroValue4
  t5 := Try.underlying5
  a5 := Try.isAgg5
  z5 := Try.sizeOf5
  v5 := Try.zeroValue5
  t9 := Try.underlying9
  a9 := Try.isAgg9
  z9 := Try.sizeOf9
  v9 := Try.zeroValue9
  t22 := Try.underlying48
  a22 := Try.isAgg48
  z22 := Try.sizeOf48
  v22 := Try.zeroValue48
  t25 := Try.underlying127
  a25 := Try.isAgg127
  z25 := Try.sizeOf127
  v25 := Try.zeroValue127
  t39 := Try.underlying30
  a39 := Try.isAgg30
  z39 := Try.sizeOf30
  v39 := Try.zeroValue30
  t45 := Try.underlying142
  a45 := Try.isAgg142
  z45 := Try.sizeOf142
  v45 := Try.zeroValue142
  t46 := Try.underlying143
  a46 := Try.isAgg143
  z46 := Try.sizeOf143
  v46 := Try.zeroValue143
  t50 := Try.underlying131
  a50 := Try.isAgg131
  z50 := Try.sizeOf131
  v50 := Try.zeroValue131
  t53 := Try.underlying66
  a53 := Try.isAgg66
  z53 := Try.sizeOf66
  v53 := Try.zeroValue66
  t55 := Try.underlying22
  a55 := Try.isAgg22
  z55 := Try.sizeOf22
  v55 := Try.zeroValue22
  t66 := Try.underlying164
  a66 := Try.isAgg164
  z66 := Try.sizeOf164
  v66 := Try.zeroValue164
  t70 := Try.underlying168
  a70 := Try.isAgg168
  z70 := Try.sizeOf168
  v70 := Try.zeroValue168
  t76 := Try.underlying178
  a76 := Try.isAgg178
  z76 := Try.sizeOf178
  v76 := Try.zeroValue178
  t77 := Try.underlying179
  a77 := Try.isAgg179
  z77 := Try.sizeOf179
  v77 := Try.zeroValue179 }
end Go.Proofs.Ytckochcocflleaa
