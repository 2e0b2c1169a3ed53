/-
  Texts of this seat, put together: each with its own head.
-/
import Derived.Test.YtcfghkphkmoikaaGreatMqS
import Derived.Test.YtcfghkphkmoikaaGreatSnJ
import Derived.Test.YtcfghkphkmoikaaGreatKitB
import Derived.Test.YtcfghkphkmoikaaGreatMqA
import Derived.Deep.CutBlock
import Derived.Deep.DeepCutAuto
import Derived.Test.YtcfghkphkmoikaaGreatMqT
import Derived.Maps.OwnOps
import Derived.Test.YtcfghkphkmoikaaGreatMqN
import Derived.Test.YtcfghkphkmoikaaGreatMqG

/-
  Layer 17: 'ascending', 'point', 'compare', walked.
-/
namespace Go.Proofs.YtcfghkphkmoikaaGreat
set_option maxRecDepth 100000
open Go.RowKit
set_option linter.unusedVariables false
set_option linter.unusedSimpArgs false
/-- Two numbers of 32 bits in memory. -/
def Sf (x y : Int) (j : Nat) : Value := if j = 0 then .int .i32 x else .int .i32 y
theorem srow (w : World) (b : Nat) (hb : b = w.heap.size) (t : TypeId) (x y : Int) : Row (w.alloc (.cells #[.int .i32 x, .int .i32 y] t)) b 2 (Sf x y) := by
  subst hb
  refine Row.of_cells fun j hj => ?_
  have h : j = 0 ∨ j = 1 := by omega
  rcases h with rfl | rfl <;> rfl
theorem scells {w : World} {b : Nat} {x y : Int} (h : Row w b 2 (Sf x y)) : w.cell? ⟨b, 0, none⟩ = some (.int .i32 x) ∧ w.cell? ⟨b, 1, none⟩ = some (.int .i32 y) ∧ b < w.heap.size := ⟨h.1 0 (by omega), h.1 1 (by omega), h.2.2⟩
theorem sput {w : World} {b : Nat} {u v : Int} (h : Row w b 2 (Sf u v)) (x y : Int) : Row ((w.setCell ⟨b, 0, none⟩ (.int .i32 x)).setCell ⟨b, 1, none⟩ (.int .i32 y)) b 2 (Sf x y) := by
  refine ((h.set 0 _).set 1 _).congr fun j hj => ?_
  have hh : j = 0 ∨ j = 1 := by omega
  rcases hh with rfl | rfl <;> rfl
/-- A piece in memory. -/
def Qf (a b c d : Int) (j : Nat) : Value := if j = 0 then .int .i32 a else if j = 1 then .int .i32 b else if j = 2 then .int .i32 c else .int .i32 d
theorem fourQ {j : Nat} (h : j < 4) : j = 0 ∨ j = 1 ∨ j = 2 ∨ j = 3 := by omega
theorem qrow (w : World) (b : Nat) (hb : b = w.heap.size) (t : TypeId) (x y u v : Int) : Row (w.alloc (.cells #[.int .i32 x, .int .i32 y, .int .i32 u, .int .i32 v] t)) b 4 (Qf x y u v) := by
  subst hb
  refine Row.of_cells fun j hj => ?_
  rcases fourQ hj with rfl | rfl | rfl | rfl <;> rfl
theorem qput {w : World} {b : Nat} {f : Nat → Value} (h : Row w b 4 f) (x y u v : Int) : Row ((((w.setCell ⟨b, 0, none⟩ (.int .i32 x)).setCell ⟨b, 1, none⟩ (.int .i32 y)).setCell ⟨b, 2, none⟩ (.int .i32 u)).setCell ⟨b, 3, none⟩ (.int .i32 v)) b 4 (Qf x y u v) := by
  refine ((((h.set 0 _).set 1 _).set 2 _).set 3 _).congr fun j hj => ?_
  rcases fourQ hj with rfl | rfl | rfl | rfl <;> rfl
theorem qput0 {w : World} {b : Nat} (h : Row w b 4 (Qf 0 0 0 0)) (x y u v : Int) : Row ((((w.setCell ⟨b, 0, none⟩ (.int .i32 x)).setCell ⟨b, 1, none⟩ (.int .i32 y)).setCell ⟨b, 2, none⟩ (.int .i32 u)).setCell ⟨b, 3, none⟩ (.int .i32 v)) b 4 (Qf x y u v) := qput h x y u v
theorem qcells {w : World} {b : Nat} {x y u v : Int} (h : Row w b 4 (Qf x y u v)) : w.cell? ⟨b, 0, none⟩ = some (.int .i32 x) ∧ w.cell? ⟨b, 1, none⟩ = some (.int .i32 y) ∧ w.cell? ⟨b, 2, none⟩ = some (.int .i32 u) ∧ w.cell? ⟨b, 3, none⟩ = some (.int .i32 v) ∧ b < w.heap.size :=
  ⟨h.1 0 (by omega), h.1 1 (by omega), h.1 2 (by omega), h.1 3 (by omega), h.2.2⟩
theorem q_range {w : World} {b : Nat} {x y u v : Int} (h : Row w b 4 (Qf x y u v)) : w.rangeAt b 0 [.int .i32 x, .int .i32 y, .int .i32 u, .int .i32 v] := row_range h _ fun j z hz => by
  have hlt := (List.getElem?_eq_some_iff.1 hz).1
  simp only [List.length_cons, List.length_nil] at hlt
  rcases fourQ hlt with rfl | rfl | rfl | rfl <;> (simp only [List.getElem?_cons_zero, List.getElem?_cons_succ, Option.some.injEq] at hz; subst hz; exact ⟨by omega, rfl⟩)
def pcV (p q : Pq) : Value := .agg #[.int .i32 p.x, .int .i32 p.y, .int .i32 q.x, .int .i32 q.y]
instance (p q : Pq) : Decidable (LtP p q) := by unfold LtP; infer_instance
def ascV (p q : Pq) : Value := if LtP p q then .tuple #[pcV p q, .int .i32 1] else .tuple #[pcV q p, .int .i32 (-1)]
theorem i32w {n : Int} (h : -65536 ≤ n ∧ n ≤ 65536) : IntKind.i32.wrap n = n := IntWalk.i32_in _ (by omega)
set_option maxRecDepth 100000 in
set_option maxHeartbeats 8000000 in
theorem sn_asc (p q : Pq) (hp : PixOk p) (hq : PixOk q) (w : World) : Calls Tryz.prog 39 #[Pt p.x p.y, Pt q.x q.y] w fun e w' => e = .returned (ascV p q) ∧ Since w w' := by
  obtain ⟨x, y⟩ := p
  obtain ⟨u, v⟩ := q
  unfold PixOk at hp hq
  simp only at hp hq
  have a1 := i32w (n := x) (by omega)
  have a2 := i32w (n := y) (by omega)
  have a3 := i32w (n := u) (by omega)
  have a4 := i32w (n := v) (by omega)
  clear hp hq
  unfold Pt
  go_enter Tryz.func39, Tryz.ntmps39
  go_upto_region 1 with fail
  refine wp_named fun wq hwq => ?_
  have hS : Since w wq := by subst hwq; (repeat (first | with_reducible (exact Since.refl _) | with_reducible assumption | with_reducible (refine Since.drew ?_) | with_reducible (refine Since.drewN ?_ _) | with_reducible (refine Since.alloc ?_ _) | (with_reducible (refine Since.setCell ?_ ?_ _); rotate_left; focus (first | (simp; done) | (simp; omega) | omega)) | (with_reducible (refine Since.trans ?_ (by with_reducible assumption)))))
  have hA : PtAt wq w.heap.size x y := by subst hwq; exact ((pt_new w _ rfl x y _).alloc _).alloc _
  have hB : PtAt wq (w.heap.size + 1) u v := by subst hwq; exact (pt_new _ (w.heap.size + 1) (by simp) u v _).alloc _
  have hR : Row wq (w.heap.size + 2) 4 (Qf 0 0 0 0) := by subst hwq; exact qrow _ (w.heap.size + 2) (by simp) _ 0 0 0 0
  have hz : w.heap.size + 2 < wq.heap.size := hR.2.2
  obtain ⟨c1, c2, c3⟩ := id hA
  obtain ⟨d1, d2, d3⟩ := id hB
  clear hwq
  go_cut [6, 7] (fun c d wx => ∃ bx bz : Nat, c = .pointer (some ⟨bx, 0, none⟩) ∧ d = .pointer (some ⟨bz, 0, none⟩) ∧ Since wq wx ∧ Row wx bx 2 (Sf x y) ∧ Row wx bz 2 (Sf u v))
  case first =>
    (refine wp_named fun wr1 hwr1 => ?_; go_region_held3 (fun w' => (∀ b o, b < wr1.heap.size → w'.cell? ⟨b, o, none⟩ = wr1.cell? ⟨b, o, none⟩) ∧ (∀ b o, b < wr1.heap.size → w'.frozen? ⟨b, o, none⟩ = wr1.frozen? ⟨b, o, none⟩) ∧ (∀ k, k < wr1.heap.size → k < w'.heap.size) ∧ Below wr1.heap.size wr1 w') ((subst hwr1; (repeat (with_reducible (refine since_put ?_ ?_ _); rotate_left; focus (first | (simp; done) | (simp; omega) | omega))); first | assumption | (refine since_step (by assumption) ?_; first | assumption | ((repeat (first | with_reducible (exact Since.refl _) | with_reducible assumption | with_reducible (refine Since.drew ?_) | with_reducible (refine Since.drewN ?_ _) | with_reducible (refine Since.alloc ?_ _) | (with_reducible (refine Since.setCell ?_ ?_ _); rotate_left; focus (first | (simp; done) | (simp; omega) | omega)))); done)) | (refine since_step (Since.refl _) ?_; first | assumption | ((repeat (first | with_reducible (exact Since.refl _) | with_reducible assumption | with_reducible (refine Since.drew ?_) | with_reducible (refine Since.drewN ?_ _) | with_reducible (refine Since.alloc ?_ _) | (with_reducible (refine Since.setCell ?_ ?_ _); rotate_left; focus (first | (simp; done) | (simp; omega) | omega)) | (with_reducible (refine Since.trans ?_ (by with_reducible assumption))))); done)))) (fail); all_goals (rename_i hHeld; have hR1 : Since wr1 _ := hHeld; obtain ⟨hcR1, hfR1, hzR1, hbR1⟩ := hHeld; subst hwr1))
    all_goals (go_wp2_with fail)
    all_goals go_meet
    all_goals refine ⟨_, _, rfl, rfl, ?_, ?_, ?_⟩
    all_goals (first | ((repeat (first | with_reducible (exact Since.refl _) | with_reducible assumption | with_reducible (refine Since.drew ?_) | with_reducible (refine Since.drewN ?_ _) | with_reducible (refine Since.alloc ?_ _) | (with_reducible (refine Since.setCell ?_ ?_ _); rotate_left; focus (first | (simp; done) | (simp; omega) | omega)) | (with_reducible (refine Since.trans ?_ (by with_reducible assumption))))); done) | (repeat (first | with_reducible assumption | with_reducible (refine Row.drew ?_) | (with_reducible (refine srow _ _ ?_ _ _ _); first | with_reducible rfl | (simp; done)) | with_reducible (refine Row.alloc ?_ _))))
  case rest =>
    obtain ⟨bx, bz, rfl, rfl, hS1, hX, hZ⟩ := hcut
    have hA1 := hA.since hS1
    have hB1 := hB.since hS1
    have hR1 := hR.since hS1
    have hT1 := hS.trans hS1
    clear hA hB hR hS c1 c2 c3 d1 d2 d3 hS1 hz
    obtain ⟨c1, c2, c3⟩ := hA1
    obtain ⟨d1, d2, d3⟩ := hB1
    obtain ⟨x1, x2, x3⟩ := scells hX
    obtain ⟨z1, z2, z3⟩ := scells hZ
    have f0 := hR1.2.1 0
    have f1 := hR1.2.1 1
    have f2 := hR1.2.1 2
    have f3 := hR1.2.1 3
    obtain ⟨r0, r1, r2, r3, r4⟩ := qcells hR1
    have hle : w.heap.size ≤ w.heap.size + 2 := by omega
    have HR := Lib.hid hR1; have HT := Lib.hid hT1
    clear hX hZ hR1 hT1
    by_cases g1 : x < u
    · have g2 : LtP ⟨x, y⟩ ⟨u, v⟩ := .inl g1
      have G2 := Lib.hid g2
      clear g2
      go_wp2
      refine ret_agg_tmp (P := Tryz.prog) Tryz.results39 rfl (q_range (qput HR.out x y u v)) Tryz.underlying82 rfl (by kernel_rfl) rfl rfl ⟨by unfold ascV; rw [if_pos G2.out]; rfl, ?_⟩
      exact (((HT.out.setCell (p := ⟨w.heap.size + 2, 0, none⟩) hle _).setCell (p := ⟨w.heap.size + 2, 1, none⟩) hle _).setCell (p := ⟨w.heap.size + 2, 2, none⟩) hle _).setCell (p := ⟨w.heap.size + 2, 3, none⟩) hle _
    · by_cases g3 : x = u
      · have g5 : (x == u) = true := by simp [g3]
        by_cases g4 : y < v
        · have G2 := Lib.hid (show LtP ⟨x, y⟩ ⟨u, v⟩ from .inr ⟨g3, g4⟩)
          clear g3
          go_wp2
          refine ret_agg_tmp (P := Tryz.prog) Tryz.results39 rfl (q_range (qput HR.out x y u v)) Tryz.underlying82 rfl (by kernel_rfl) rfl rfl ⟨by unfold ascV; rw [if_pos G2.out]; rfl, ?_⟩
          exact (((HT.out.setCell (p := ⟨w.heap.size + 2, 0, none⟩) hle _).setCell (p := ⟨w.heap.size + 2, 1, none⟩) hle _).setCell (p := ⟨w.heap.size + 2, 2, none⟩) hle _).setCell (p := ⟨w.heap.size + 2, 3, none⟩) hle _
        · have G2 := Lib.hid (show ¬ LtP ⟨x, y⟩ ⟨u, v⟩ from fun h => by rcases h with h | ⟨_, h⟩ <;> contradiction)
          clear g3
          go_wp2
          refine ret_agg_tmp (P := Tryz.prog) Tryz.results39 rfl (q_range (qput HR.out u v x y)) Tryz.underlying82 rfl (by kernel_rfl) rfl rfl ⟨by unfold ascV; rw [if_neg G2.out]; rfl, ?_⟩
          exact (((HT.out.setCell (p := ⟨w.heap.size + 2, 0, none⟩) hle _).setCell (p := ⟨w.heap.size + 2, 1, none⟩) hle _).setCell (p := ⟨w.heap.size + 2, 2, none⟩) hle _).setCell (p := ⟨w.heap.size + 2, 3, none⟩) hle _
      · have g5 : (x == u) = false := by simp [g3]
        have G2 := Lib.hid (show ¬ LtP ⟨x, y⟩ ⟨u, v⟩ from fun h => by rcases h with h | ⟨h, _⟩ <;> contradiction)
        go_wp2
        refine ret_agg_tmp (P := Tryz.prog) Tryz.results39 rfl (q_range (qput HR.out u v x y)) Tryz.underlying82 rfl (by kernel_rfl) rfl rfl ⟨by unfold ascV; rw [if_neg G2.out]; rfl, ?_⟩
        exact (((HT.out.setCell (p := ⟨w.heap.size + 2, 0, none⟩) hle _).setCell (p := ⟨w.heap.size + 2, 1, none⟩) hle _).setCell (p := ⟨w.heap.size + 2, 2, none⟩) hle _).setCell (p := ⟨w.heap.size + 2, 3, none⟩) hle _
end Go.Proofs.YtcfghkphkmoikaaGreat

/-
  Layer 17: pieces as keys of a map, pairs of numbers as its elements; the table of pieces.
-/
namespace Go.Proofs.YtcfghkphkmoikaaGreat
set_option maxRecDepth 100000
open Go.RowKit Go.Maps
set_option linter.unusedVariables false
set_option linter.unusedSimpArgs false
def I32 (n : Int) : Prop := (Lit.int .i32 n).wf = true
theorem i32_of {n : Int} (h : -2147483648 ≤ n ∧ n ≤ 2147483647) : I32 n := WalkArith.wf_i32 h
theorem rowPc : (82 : TypeId) < Tryz.prog.types.size := of_decide_eq_true (by kernel_rfl)
theorem widePc : (match Tryz.prog.underlying 82 with | some (.array _ _) | some (.struct _) => true | _ => false) = true := by kernel_rfl
set_option maxRecDepth 100000 in
theorem lawPc : Keyed Tryz.prog 82 := Keyed.of_law (deep_law_laid laidOut0 (m := 4) (by omega) rowPc (by kernel_rfl) widePc)
theorem keyPc : Tryz.prog.keyType 82 = true := by kernel_rfl
theorem cellsPc : Tryz.prog.cellsOf 82 = 4 := by kernel_rfl
theorem cellsSpot : Tryz.prog.cellsOf 80 = 2 := by kernel_rfl
theorem cellsI32 : Tryz.prog.cellsOf 21 = 1 := by kernel_rfl
/-- A piece as a key. -/
def kQ (p q : Pq) : Lit := .string (keyBytes [.int .i32 p.x, .int .i32 p.y, .int .i32 q.x, .int .i32 q.y])
def WfQ (p : Pq) : Prop := I32 p.x ∧ I32 p.y
theorem lits_spot {d : Nat} {x y : Int} (hx : I32 x) (hy : I32 y) : Tryz.prog.keyLits (d + 2) 80 [.int .i32 x, .int .i32 y] = some [.int .i32 x, .int .i32 y] := by
  have hu2 := Tryz.underlying80
  unfold I32 at hx hy
  simp only [Program.keyLits, hu2]
  simp [cellsI32, cellsSpot, Tryz.underlying21, hx, hy]
theorem lits_pc {d : Nat} {x y u v : Int} (h1 : Tryz.prog.keyLits d 80 [.int .i32 x, .int .i32 y] = some [.int .i32 x, .int .i32 y]) (h2 : Tryz.prog.keyLits d 80 [.int .i32 u, .int .i32 v] = some [.int .i32 u, .int .i32 v]) : Tryz.prog.keyLits (d + 1) 82 [.int .i32 x, .int .i32 y, .int .i32 u, .int .i32 v] = some [.int .i32 x, .int .i32 y, .int .i32 u, .int .i32 v] := by
  have hu := Tryz.underlying82
  simp only [Program.keyLits, hu]
  simp [cellsSpot, cellsPc, h1, h2]
theorem keyOf_pc {p q : Pq} (hp : WfQ p) (hq : WfQ q) : keyOf Tryz.prog 82 (pcV p q) = some (kQ p q) := by
  obtain ⟨n, hn⟩ := sizeTy
  have hu := Tryz.underlying82
  have hu2 := Tryz.underlying80
  obtain ⟨h1, h2⟩ := hp
  obtain ⟨h3, h4⟩ := hq
  unfold I32 at h1 h2 h3 h4
  unfold keyOf
  rw [hu]
  have hf : (pcV p q).formed Tryz.prog 82 = true := by
    unfold pcV
    simp [Value.formed, hu, cellsPc]
  obtain ⟨n', rfl⟩ : ∃ n', n = n' + 1 := by
    rcases n with _ | n'
    · have := rowPc; rw [hn] at this; exact absurd this (by decide)
    · exact ⟨n', rfl⟩
  have hl : Tryz.prog.keyLits (Tryz.prog.types.size + 1) 82 (pcV p q).cells.toList = some [.int .i32 p.x, .int .i32 p.y, .int .i32 q.x, .int .i32 q.y] := by
    rw [hn]
    exact lits_pc (lits_spot (d := n') h1 h2) (lits_spot (d := n') h3 h4)
  simp only [keyPc, hf, hl]
  rfl
theorem lits_spot_inv {d : Nat} {c0 c1 : Value} {L : List Lit} (h : Tryz.prog.keyLits (d + 2) 80 [c0, c1] = some L) : ∃ x y, c0 = .int .i32 x ∧ c1 = .int .i32 y ∧ I32 x ∧ I32 y := by
  have hu2 := Tryz.underlying80
  simp only [Program.keyLits, hu2] at h
  simp only [cellsI32, cellsSpot] at h
  cases c0 <;> first | (simp [cellsI32, cellsSpot, Tryz.underlying21] at h; done) | skip
  cases c1 <;> first | (simp [cellsI32, cellsSpot, Tryz.underlying21] at h; done) | skip
  rename_i q x r y
  simp [cellsI32, cellsSpot, Tryz.underlying21] at h
  by_cases c : q = .i32 ∧ (Lit.int .i32 x).wf = true
  · by_cases c' : r = .i32 ∧ (Lit.int .i32 y).wf = true
    · obtain ⟨rfl, wx⟩ := c
      obtain ⟨rfl, wy⟩ := c'
      exact ⟨x, y, rfl, rfl, wx, wy⟩
    · rw [if_pos c, if_neg c'] at h; simp at h
  · rw [if_neg c] at h; simp at h
set_option maxRecDepth 100000 in
set_option maxHeartbeats 4000000 in
theorem keyOf_pc_inv {v : Value} {kl : Lit} (h : keyOf Tryz.prog 82 v = some kl) : ∃ p q : Pq, v = pcV p q ∧ kl = kQ p q ∧ WfQ p ∧ WfQ q := by
  obtain ⟨n, hn⟩ := sizeTy
  have hu := Tryz.underlying82
  have h0 := h
  unfold keyOf at h
  rw [hu] at h
  simp only [keyPc, Bool.true_and] at h
  obtain ⟨n', rfl⟩ : ∃ n', n = n' + 1 := by
    rcases n with _ | n'
    · have := rowPc; rw [hn] at this; exact absurd this (by decide)
    · exact ⟨n', rfl⟩
  split at h
  · rename_i hf
    cases v <;> simp [Value.formed, hu] at hf
    rename_i cs
    rw [cellsPc] at hf
    obtain ⟨l⟩ := cs
    match l, hf with
    | [c0, c1, c2, c3], _ =>
      rw [hn] at h
      generalize hd : n' + 1 + 1 = d at h
      simp only [Program.keyLits, hu, Value.cells, cellsPc] at h
      simp [cellsSpot] at h
      cases e1 : Tryz.prog.keyLits d 80 [c0, c1] with
      | none => rw [e1] at h; cases h
      | some L1 =>
        rw [e1] at h
        cases e2 : Tryz.prog.keyLits d 80 [c2, c3] with
        | none => rw [e2] at h; cases h
        | some L2 =>
          subst hd
          obtain ⟨x, y, rfl, rfl, w1, w2⟩ := lits_spot_inv e1
          obtain ⟨u, v, rfl, rfl, w3, w4⟩ := lits_spot_inv e2
          have hp : WfQ ⟨x, y⟩ := ⟨w1, w2⟩
          have hq : WfQ ⟨u, v⟩ := ⟨w3, w4⟩
          have hk := keyOf_pc hp hq
          have h1 : (some kl : Option Lit) = some (kQ ⟨x, y⟩ ⟨u, v⟩) := by
            rw [← h0]
            exact hk
          exact ⟨⟨x, y⟩, ⟨u, v⟩, rfl, Option.some.inj h1, hp, hq⟩
  · cases h
theorem kQ_key {p q : Pq} (hp : WfQ p) (hq : WfQ q) : WideAt.IsKeyLit (kQ p q) := lawPc.key (keyOf_pc hp hq)
theorem kQ_inj {p q p' q' : Pq} (hp : WfQ p) (hq : WfQ q) (hp' : WfQ p') (hq' : WfQ q') (h : kQ p q = kQ p' q') : p = p' ∧ q = q' := by
  have e := lawPc.inj (keyOf_pc hp hq) (h ▸ keyOf_pc hp' hq')
  unfold pcV at e
  obtain ⟨x, y⟩ := p
  obtain ⟨u, v⟩ := q
  obtain ⟨x', y'⟩ := p'
  obtain ⟨u', v'⟩ := q'
  simp at e
  obtain ⟨rfl, rfl, rfl, rfl⟩ := e
  exact ⟨rfl, rfl⟩
/-- A pair of numbers as a map's element. -/
def mnV (v : Int × Int) : Value := .agg #[.int .i32 v.1, .int .i32 v.2]
def mnD (v : Int × Int) : DataW Unit := .agg [.lit (.int .i32 v.1), .lit (.int .i32 v.2)]
def mnE : Value → Option (DataW Unit × List MemPlace)
  | .agg ⟨[.int .i32 m, .int .i32 n]⟩ => some (mnD (m, n), [])
  | _ => none
theorem mnE_mk (v : Int × Int) : mnE (mnV v) = some (mnD v, []) := rfl
theorem mnE_inv {v : Value} {z : DataW Unit × List MemPlace} (h : mnE v = some z) : ∃ c, v = mnV c ∧ z = (mnD c, []) := by
  unfold mnE at h
  split at h
  · rename_i m n
    injection h with h
    exact ⟨(m, n), rfl, h.symm⟩
  · cases h
theorem mnD_inj {a b : Int × Int} (h : mnD a = mnD b) : a = b := by
  unfold mnD at h
  injection h with h
  simp at h
  exact Prod.ext h.1 h.2
theorem zeroMn (w : World) : (zeroValue 85).run Tryz.prog w = .ok (mnV (0, 0)) w := by kernel_rfl
/-- The table reads as V. -/
def TabQ (D : DataW Unit) (V : Pq → Pq → Option (Int × Int)) : Prop := IsMap D ∧ (∀ p q, WfQ p → WfQ q → D.atKey (kQ p q) (mnD (0, 0)) = mnD ((V p q).getD (0, 0))) ∧ ∀ p q, WfQ p → WfQ q → Maps.has D (kQ p q) = (V p q).isSome
theorem TabQ.empty : TabQ (.map []) (fun _ _ => none) := ⟨isMap_empty, fun p q _ _ => rfl, fun p q _ _ => rfl⟩
theorem TabQ.put {D : DataW Unit} {V : Pq → Pq → Option (Int × Int)} (h : TabQ D V) {a b : Pq} (ha : WfQ a) (hb : WfQ b) (v : Int × Int) : TabQ (D.put (kQ a b) (mnD v)) (putV V a b v) := by
  have hk := kQ_key ha hb
  refine ⟨h.1.put _ _, fun p q hp hq => ?_, fun p q hp hq => ?_⟩
  · unfold putV
    by_cases e : p = a ∧ q = b
    · rw [if_pos e, e.1, e.2, atKey_put_same h.1 hk]; rfl
    · rw [if_neg e, atKey_put_other (fun hk => e (kQ_inj hp hq ha hb hk)), h.2.1 p q hp hq]
  · unfold putV
    by_cases e : p = a ∧ q = b
    · rw [if_pos e, e.1, e.2, has_put_same h.1 hk]; rfl
    · rw [if_neg e, has_put_other (fun hk => e (kQ_inj hp hq ha hb hk)), h.2.2 p q hp hq]
/-- A map of pieces in memory. -/
def MapQ (w : World) (b n : Nat) (V : Pq → Pq → Option (Int × Int)) : Prop := ∃ D : DataW Unit, w.ownsMap Tryz.prog 82 mnE b n D ∧ TabQ D V
theorem MapQ.look {w : World} {b n : Nat} {V : Pq → Pq → Option (Int × Int)} (h : MapQ w b n V) {a c : Pq} (ha : WfQ a) (hc : WfQ c) : (Instr.lookup 77 (.map (some b)) (pcV a c) false).run Tryz.prog w = .ok (mnV ((V a c).getD (0, 0))) w := by
  obtain ⟨D, hD, hT⟩ := h
  obtain ⟨v, ps, hrun, hv⟩ := hD.lookup lawPc Tryz.underlying77 (zeroMn w) (mnE_mk (0, 0)) (keyOf_pc ha hc)
  obtain ⟨x, rfl, hz⟩ := mnE_inv hv
  rw [hT.2.1 a c ha hc] at hz
  injection hz with hz _
  rw [hrun, mnD_inj hz]
theorem MapQ.since {w w' : World} {b n : Nat} {V : Pq → Pq → Option (Int × Int)} (h : MapQ w b n V) (k : Since w w') : MapQ w' b n V := by
  obtain ⟨D, hD, hT⟩ := h
  exact ⟨D, map_since hD k, hT⟩
theorem MapQ.update {w : World} {b n : Nat} {V : Pq → Pq → Option (Int × Int)} (h : MapQ w b n V) {a c : Pq} (ha : WfQ a) (hc : WfQ c) (v : Int × Int) (hn : n < maxLen) :
    ∃ w', (Instr.mapUpdate 77 (.map (some b)) (pcV a c) (mnV v)).run Tryz.prog w = .ok () w' ∧ MapQ w' b (n + 1) (putV V a c v) ∧ w.grownBy w' (some b) := by
  obtain ⟨D, hD, hT⟩ := h
  obtain ⟨w', h1, h2, h3⟩ := hD.update lawPc Tryz.underlying77 hn (keyOf_pc ha hc) (mnE_mk v)
  exact ⟨w', h1, ⟨_, h2, hT.put ha hc v⟩, h3⟩
end Go.Proofs.YtcfghkphkmoikaaGreat

/-
  Layer 17: the order of edges; the library's sort of edges.
-/
namespace Go.Proofs.YtcfghkphkmoikaaGreat
set_option maxRecDepth 100000
open Go.RowKit Go.Sort
set_option linter.unusedVariables false
set_option linter.unusedSimpArgs false
set_option maxHeartbeats 4000000 in
theorem sn_point (x y : Int) (hx : -65536 ≤ x ∧ x ≤ 65536) (hy : -65536 ≤ y ∧ y ≤ 65536) (w : World) : Calls Tryz.prog 73 #[.agg #[.int .i32 x, .int .i32 y]] w fun e w' => e = .returned (Pt x y) ∧ Since w w' := by
  have a1 : IntKind.i64.wrap x = x := IntWalk.i64_in _ (by omega)
  have a2 : IntKind.i64.wrap y = y := IntWalk.i64_in _ (by omega)
  unfold Pt
  go_enter Tryz.func73, Tryz.ntmps73
  go_wp2
  refine bodyPost_ret (by simp only [results, Tryz.results73]; go_simp) rfl ⟨rfl, ?_⟩
  (repeat (first | with_reducible (exact Since.refl _) | with_reducible assumption | with_reducible (refine Since.drew ?_) | with_reducible (refine Since.drewN ?_ _) | with_reducible (refine Since.alloc ?_ _) | (with_reducible (refine Since.setCell ?_ ?_ _); rotate_left; focus (first | (simp; done) | (simp; omega) | omega)) | (with_reducible (refine Since.trans ?_ (by with_reducible assumption)))))
set_option maxHeartbeats 4000000 in
theorem sn_compare (p q : Pq) (w : World) : Calls Tryz.prog 76 #[Pt p.x p.y, Pt q.x q.y] w fun e w' => e = .returned (.int .i64 (cmpP p q)) ∧ Gr w w' := by
  obtain ⟨x, y⟩ := p
  obtain ⟨u, v⟩ := q
  have h1 := fun w => cmp_int x u w
  have h2 := fun w => cmp_int y v w
  unfold cmpP Pt orI
  simp only
  have H1 := Lib.hid h1; have H2 := Lib.hid h2
  clear h1 h2
  by_cases hx : x = u
  · have g1 : (x == u) = true := by simp [hx]
    have g2 : (x != u) = false := by simp [hx]
    have e0 : cmpI x u = 0 := by rw [hx]; unfold cmpI; simp
    rw [if_pos e0]
    clear e0 hx
    go_enter Tryz.func76, Tryz.ntmps76
    go_wp2_with (go_at_call 55; (with_reducible refine (H2.out _).mono ?_); rintro e w1 ⟨rfl, rfl⟩)
    go_ret
    exact ⟨rfl, by (repeat (first | with_reducible (exact Gr.refl _) | with_reducible assumption | with_reducible (refine Gr.drew ?_) | with_reducible (refine Gr.drewN ?_ _) | with_reducible (refine Gr.alloc ?_ _) | (with_reducible (refine Gr.trans ?_ (by with_reducible assumption)))))⟩
  · have g1 : (x == u) = false := by simp [hx]
    have g2 : (x != u) = true := by simp [hx]
    have e0 : cmpI x u ≠ 0 := by rcases cmp_is x u with ⟨e, k⟩ | ⟨e, k⟩ | ⟨e, k⟩ <;> omega
    rw [if_neg e0]
    clear e0 hx
    go_enter Tryz.func76, Tryz.ntmps76
    go_wp2_with (go_at_call 55; (with_reducible refine (H1.out _).mono ?_); rintro e w1 ⟨rfl, rfl⟩)
    go_ret
    exact ⟨rfl, by (repeat (first | with_reducible (exact Gr.refl _) | with_reducible assumption | with_reducible (refine Gr.drew ?_) | with_reducible (refine Gr.drewN ?_ _) | with_reducible (refine Gr.alloc ?_ _) | (with_reducible (refine Gr.trans ?_ (by with_reducible assumption)))))⟩
def cmpE (s t : Eg) : Int := if s.a = t.a then cmpP s.b t.b else cmpP s.a t.a
def egL (e : Eg) : List Value := [.int .i64 e.a.x, .int .i64 e.a.y, .int .i64 e.b.x, .int .i64 e.b.y, .int .i64 e.m, .int .i64 e.n]
theorem egL_len (e : Eg) : (egL e).length = 6 := rfl
theorem egL_one (e : Eg) : ∀ u ∈ egL e, u.oneCell' = true := by
  intro u hu
  simp only [egL, List.mem_cons, List.not_mem_nil, or_false] at hu
  rcases hu with rfl | rfl | rfl | rfl | rfl | rfl <;> rfl
set_option maxRecDepth 100000 in
set_option maxHeartbeats 4000000 in
theorem sn_byeg (s t : Eg) (w : World) : Calls Tryz.prog 75 #[.agg #[.int .i64 s.a.x, .int .i64 s.a.y, .int .i64 s.b.x, .int .i64 s.b.y, .int .i64 s.m, .int .i64 s.n], .agg #[.int .i64 t.a.x, .int .i64 t.a.y, .int .i64 t.b.x, .int .i64 t.b.y, .int .i64 t.m, .int .i64 t.n]] w fun e w' => e = .returned (.int .i64 (cmpE s t)) ∧ Gr w w' := by
  have h1 := fun w => sn_compare s.a t.a w
  have h2 := fun w => sn_compare s.b t.b w
  have hq := eq_pt
  unfold cmpE Pt at *
  obtain ⟨⟨ax, ay⟩, ⟨bx, bz⟩, m, n⟩ := s
  obtain ⟨⟨cx, cy⟩, ⟨dx, dz⟩, m', n'⟩ := t
  simp only at h1 h2 ⊢
  have H1 := Lib.hid h1; have H2 := Lib.hid h2
  clear h1 h2
  by_cases he : (⟨ax, ay⟩ : Pq) = ⟨cx, cy⟩
  · have g1 : (ax == cx) = true := by injection he with e1 e2; simp [e1]
    have g2 : (ay == cy) = true := by injection he with e1 e2; simp [e2]
    rw [if_pos he]
    clear he
    go_enter Tryz.func75, Tryz.ntmps75
    go_wp2_with (go_at_call 76; (with_reducible refine (H2.out _).mono ?_); rintro e w1 ⟨rfl, hG1⟩)
    go_ret
    exact ⟨rfl, by (repeat (first | with_reducible (exact Gr.refl _) | with_reducible assumption | with_reducible (refine Gr.drew ?_) | with_reducible (refine Gr.drewN ?_ _) | with_reducible (refine Gr.alloc ?_ _) | (with_reducible (refine Gr.trans ?_ (by with_reducible assumption)))))⟩
  · have g1 : (ax == cx && ay == cy) = false := by
      cases h1 : (ax == cx && ay == cy)
      · rfl
      · simp only [Bool.and_eq_true, beq_iff_eq] at h1
        exact absurd (by rw [h1.1, h1.2]) he
    rw [if_neg he]
    clear he
    go_enter Tryz.func75, Tryz.ntmps75
    go_wp2_with (go_at_call 76; (with_reducible refine (H1.out _).mono ?_); rintro e w1 ⟨rfl, hG1⟩)
    go_ret
    exact ⟨rfl, by (repeat (first | with_reducible (exact Gr.refl _) | with_reducible assumption | with_reducible (refine Gr.drew ?_) | with_reducible (refine Gr.drewN ?_ _) | with_reducible (refine Gr.alloc ?_ _) | (with_reducible (refine Gr.trans ?_ (by with_reducible assumption)))))⟩
instance : Inhabited Eg := ⟨⟨⟨0, 0⟩, ⟨0, 0⟩, 0, 0⟩⟩
theorem cmpP_neg {p q : Pq} : cmpP p q < 0 ↔ LtP p q := by
  have h := cmpP_lt p q
  unfold Go.Proofs.ltOf at h
  rw [Bool.eq_iff_iff] at h
  simpa [LtP] using h
theorem cmpE_lt (s t : Eg) : Go.Proofs.ltOf cmpE s t = true ↔ LtE s t := by
  unfold Go.Proofs.ltOf cmpE LtE
  rw [decide_eq_true_eq]
  split
  · rename_i h
    rw [cmpP_neg]
    constructor
    · exact fun k => .inr ⟨h, k⟩
    · rintro (k | ⟨_, k⟩)
      · rw [h] at k; exact absurd k ltP_irr
      · exact k
  · rename_i h
    rw [cmpP_neg]
    constructor
    · exact fun k => .inl k
    · rintro (k | ⟨k, _⟩)
      · exact k
      · exact absurd k h
theorem ltP_eq {p q : Pq} (h : ¬ LtP p q) (k : ¬ LtP q p) : p = q := by
  obtain ⟨x, y⟩ := p
  obtain ⟨u, v⟩ := q
  unfold LtP at *
  simp only at h k
  obtain rfl : x = u := by omega
  obtain rfl : y = v := by omega
  rfl
theorem swo_eg : SWO (Go.Proofs.ltOf cmpE) where
  irrefl x := by
    cases h : Go.Proofs.ltOf cmpE x x
    · rfl
    · exact absurd ((cmpE_lt x x).1 h) (ltE_irr x)
  trans x y z h1 h2 := (cmpE_lt x z).2 (ltE_tr ((cmpE_lt x y).1 h1) ((cmpE_lt y z).1 h2))
  ntrans x y z h1 h2 := by
    cases h : Go.Proofs.ltOf cmpE x z
    · rfl
    · have k := (cmpE_lt x z).1 h
      have n1 : ¬ LtE x y := fun e => by rw [(cmpE_lt x y).2 e] at h1; cases h1
      have n2 : ¬ LtE y z := fun e => by rw [(cmpE_lt y z).2 e] at h2; cases h2
      exfalso
      by_cases k1 : LtE y x
      · exact n2 (ltE_tr k1 k)
      · -- neither less: the same ends
        have ha : x.a = y.a := ltP_eq (fun e => n1 (.inl e)) (fun e => k1 (.inl e))
        have hb : x.b = y.b := ltP_eq (fun e => n1 (.inr ⟨ha, e⟩)) (fun e => k1 (.inr ⟨ha.symm, e⟩))
        refine n2 ?_
        unfold LtE at k ⊢
        rw [← ha, ← hb]
        exact k
/-- The library's sort of edges by their ends. -/
theorem sn_sortE (w0 w : World) (base : Nat) (v : Value) (L : List Eg) (hS : Since w0 w) (hb : w0.heap.size ≤ base) (hR : OwnG 47 6 egL w base v L) (hL : L.length < 4611686018427387904) :
    Calls Tryz.prog 74 #[v, .func (.func 75) #[] #[]] w fun e w' => (∃ u, e = .returned u) ∧ ∃ L', List.Perm L' L ∧ SortedL (Go.Proofs.ltOf cmpE) L' ∧ OwnG 47 6 egL w' base v L' ∧ Since w0 w' := by
  have hR2 := hR
  obtain ⟨_, h2⟩ := hR2
  rcases h2 with ⟨rfl, h0⟩ | ⟨g', cap, cur, rfl, _⟩
  · have hl0 : L = [] := List.length_eq_zero_iff.1 h0
    subst hl0
    have h := Go.Proofs.AnyF.slices_SortFunc_none sortEg none 0 (.func (.func 75) #[] #[]) w
    change Calls Tryz.prog 74 _ _ _ at h
    refine h.mono ?_
    rintro e w' ⟨rfl, rfl⟩
    exact ⟨⟨_, rfl⟩, [], List.Perm.refl _, List.Pairwise.nil, hR, hS⟩
  · obtain ⟨hH, hlt, hbg, _⟩ := own_holds (by omega) egL_len hR
    have hc : Go.Proofs.CmpLays Tryz.prog 75 #[] egL 6 cmpE g' 0 L.toArray.size w := fun m os dk _ x y => by
      refine (sn_byeg x y _).mono ?_
      rintro e w' ⟨rfl, q, os', h⟩
      exact ⟨rfl, q, os', h⟩
    have h := Go.Proofs.AnyQ.slices_SortFunc sortEg 6 Tryz.isAgg47 Tryz.sizeOf47 egL egL_len egL_one cmpE swo_eg 75 #[] g' 0 cap L.toArray w (Go.Proofs.enters_of Tryz.func75 (by kernel_rfl) rfl) hc hH hlt (by simpa using hL)
    change Calls Tryz.prog 74 _ _ _ at h
    rw [List.size_toArray] at h
    refine h.mono ?_
    rintro e w' ⟨rfl, d', n, os, hp, hs, rfl⟩
    have hp2 := perm_of (d := L.toArray) (d' := d') (by simpa using hp)
    exact ⟨⟨_, rfl⟩, d'.toList, by simpa using hp2.1, sorted_of (by simpa using hp2.2) hs, sort_own (by omega) egL_len hR n d' os (by simpa using hp2.2), sort_since hS (by omega) hlt n d' os⟩
end Go.Proofs.YtcfghkphkmoikaaGreat
