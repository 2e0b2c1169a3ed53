/-
  Outlines in memory: slices of slices of knots; the reference's 'Same' of two that read alike.
-/
import Derived.Test.YtpplnapfpoloiaaKitKt
import Derived.Deep.CutBlock
import Derived.Deep.DeepCutAuto
namespace Go.Proofs.Ytpplnapfpoloiaa
open Go.RowKit Go.ChangeShapes Go.WideShapes Go.Deep
set_option linter.unusedVariables false

theorem eq_knots (w : World) (a0 a1 b0 b1 : Int) (ak bk : Bool) : (Op.equalIn 10000 76 (.agg #[.int .i64 a0, .int .i64 a1, .bool ak]) (.agg #[.int .i64 b0, .int .i64 b1, .bool bk])).run Try.prog w = .ok ((a0 == b0 && a1 == b1) && ak == bk) w := by
  rw [run_equalIn_struct w 9999 76 _ _ (by kernel_rfl) (by kernel_rfl)]
  have heq : ∀ (d : Nat) (a b : Int) (w : World), (Op.equalIn (d + 1) 3 (.int .i64 a) (.int .i64 b)).run Try.prog w = .ok (a == b) w := fun d a b w => run_equalIn_int w d _ _ _ a b Try.underlying3
  have hc : Try.prog.cellsOf 3 = 1 := by kernel_rfl
  have hcb : Try.prog.cellsOf 4 = 1 := by kernel_rfl
  have heqb : ∀ (d : Nat) (a b : Bool) (w : World), (Op.equalIn (d + 1) 4 (.bool a) (.bool b)).run Try.prog w = .ok (a == b) w := fun d a b w => by simp [Op.equalIn, run_underlying Try.underlying4]
  simp only [Program.fieldsOf, Try.underlying76]
  by_cases h1 : a0 = b0 <;> by_cases h2 : a1 = b1 <;> by_cases h3 : ak = bk <;> simp [go_sem, heqb, h1, h2, h3]
/-- A slice's rows, each of knots. -/
structure OutD where
  n : Nat
  A : Nat → Option Addr
  N : Nat → Nat
  C : Nat → Nat
  X : Nat → Nat → Int
  Y : Nat → Nat → Int
  O : Nat → Nat → Bool
def OutD.hd (D : OutD) (j : Nat) : Value := .slice (D.A j) (D.N j) (D.C j)
/-- An outline that reads as D, in blocks below B. -/
def RdO (w : World) (B : Nat) (A : Option Addr) (D : OutD) : Prop := Rd w B A D.n D.hd ∧ (∀ j, j < D.n → RdK w B (D.A j) (D.N j) (D.X j) (D.Y j) (D.O j)) ∧ ∀ j, j < D.n → D.N j ≤ maxLen
theorem RdO.keep {w w' : World} {B : Nat} {A : Option Addr} {D : OutD} (h : RdO w B A D) (hk : ∀ b o, b < B → w'.cell? ⟨b, o, none⟩ = w.cell? ⟨b, o, none⟩) : RdO w' B A D := ⟨h.1.keep hk, fun j hj => (h.2.1 j hj).keep hk, h.2.2⟩
theorem RdO.more {w : World} {B B' : Nat} {A : Option Addr} {D : OutD} (h : RdO w B A D) (hB : B ≤ B') : RdO w B' A D := ⟨h.1.more hB, fun j hj => (h.2.1 j hj).more hB, h.2.2⟩
theorem RdO.on {w w' : World} {A : Option Addr} {D : OutD} (h : RdO w w.heap.size A D) (k : Since w w') : RdO w' w'.heap.size A D := (h.keep fun b o hb => k.1 b o hb).more k.below.size
/-- Two outlines that read alike. -/
def LikeO (D D' : OutD) : Prop := D'.n = D.n ∧ ∀ j, j < D.n → D'.N j = D.N j ∧ ∀ i, i < D.N j → D'.X j i = D.X j i ∧ D'.Y j i = D.Y j i ∧ D'.O j i = D.O j i
set_option maxRecDepth 100000 in
set_option maxHeartbeats 8000000 in
theorem rf_same7 (A A' : Option Addr) (c c' : Nat) (D D' : OutD) (w : World) (h : RdO w w.heap.size A D) (h' : RdO w w.heap.size A' D') (hl : LikeO D D') (hn : D.n ≤ maxLen) :
    Calls Try.prog 35 #[.slice A D.n c, .slice A' D'.n c'] w fun e w' => e = .returned (.bool true) ∧ Since w w' := by
  obtain ⟨hl0, hl⟩ := hl
  rw [hl0]
  obtain ⟨hR, hK, hM⟩ := h
  obtain ⟨hR', hK', _⟩ := h'
  unfold OutD.hd at hR hR'
  generalize hnn : D.n = n at *
  rw [hl0] at hR' hK'
  clear hl0 hnn
  have hn' : (n : Int) ≤ 9223372036854775807 := by simp only [maxLen] at hn; omega
  have heq := eq_knots
  go_enter Try.func35, Try.ntmps35
  go_wp2
  go_loopw [14] (fun y wr => ∃ j : Nat, j ≤ n ∧ y = .int .i64 (j : Int) ∧ Since w wr) (fun y _ => n - (intOf y).toNat)
  case atStart => exact ⟨0, by omega, rfl, Since.refl _⟩
  case round =>
    obtain ⟨j, hj, rfl, hSr⟩ := hrel
    by_cases hjn : j < n
    · have hjn' : (j : Int) < n := by omega
      obtain ⟨b, o, rfl, hb, hc⟩ := hR (by omega)
      obtain ⟨b', o', rfl, hb', hc'⟩ := hR' (by omega)
      have c1 : wr.cell? ⟨b, o + j, none⟩ = some (.slice (D.A j) (D.N j) (D.C j)) := (hSr.1 _ _ hb).trans (hc j hjn)
      have d1 : wr.cell? ⟨b', o' + j, none⟩ = some (.slice (D'.A j) (D'.N j) (D'.C j)) := (hSr.1 _ _ hb').trans (hc' j hjn)
      have hbw := hSr.2.2.1 _ hb
      have hbw' := hSr.2.2.1 _ hb'
      have kK := hK j hjn
      have kK' := hK' j hjn
      have hMj := hM j hjn
      obtain ⟨hNj, hXj⟩ := hl j hjn
      rw [hNj] at d1 kK'
      have HXJ := Lib.hid hXj
      clear hc hc' hNj hXj hl hR hR' hK hK' hM
      generalize D.A j = LA at *
      generalize D'.A j = LA' at *
      generalize D.N j = m at *
      generalize D.C j = cc at *
      generalize D'.C j = cc' at *
      have hm' : (m : Int) ≤ 9223372036854775807 := by simp only [maxLen] at hMj; omega
      go_upto_region 6 with fail
      refine wp_named fun wa hwa => ?_
      obtain rfl := hwa
      go_cut [27] (fun z wx => z = .bool false ∧ wx = wa.drew)
      case first =>
        go_region
        all_goals (go_wp2_with fail)
        all_goals go_meet
        all_goals exact ⟨rfl, rfl⟩
      obtain ⟨rfl, rfl⟩ := hcut
      have hS := hSr.drew
      have c1 : wa.drew.cell? ⟨b, o + j, none⟩ = _ := c1
      have d1 : wa.drew.cell? ⟨b', o' + j, none⟩ = _ := d1
      go_wp2_with fail
      go_loopw [33] (fun y wq => ∃ k : Nat, k ≤ m ∧ y = .int .i64 (k : Int) ∧ Since wa.drew wq) (fun y _ => m - (intOf y).toNat)
      case atStart => exact ⟨0, by omega, rfl, Since.refl _⟩
      case round =>
        obtain ⟨k, hk, rfl, hSq⟩ := hrel
        have c2 := (hSq.1 _ _ hbw).trans c1
        have d2 := (hSq.1 _ _ hbw').trans d1
        have hbq := hSq.2.2.1 _ hbw
        have hbq' := hSq.2.2.1 _ hbw'
        have hS2 := hS.trans hSq
        clear c1 d1
        by_cases hkm : k < m
        · have hkm' : (k : Int) < m := by omega
          obtain ⟨g, p, rfl, hg, hgc⟩ := kK (by omega)
          obtain ⟨g', p', rfl, hg', hgc'⟩ := kK' (by omega)
          obtain ⟨x1, x2, x3⟩ := hgc k hkm
          obtain ⟨y1, y2, y3⟩ := hgc' k hkm
          obtain ⟨e1, e2, e3⟩ := HXJ.out k hkm
          rw [e1] at y1
          rw [e2] at y2
          rw [e3] at y3
          have x1 := (hS2.1 _ _ hg).trans x1
          have x2 := (hS2.1 _ _ hg).trans x2
          have x3 := (hS2.1 _ _ hg).trans x3
          have y1 := (hS2.1 _ _ hg').trans y1
          have y2 := (hS2.1 _ _ hg').trans y2
          have y3 := (hS2.1 _ _ hg').trans y3
          have hgq := hS2.2.2.1 _ hg
          have hgq' := hS2.2.2.1 _ hg'
          clear hgc hgc' kK kK' e1 e2 e3 HXJ
          generalize D.X j k = xx at *
          generalize D.Y j k = yy at *
          generalize D.O j k = oo at *
          go_wp2_with fail
          go_region
          all_goals (go_wp2_with fail)
          all_goals go_roundw
          case rel => exact ⟨k + 1, by omega, by go_num, hSq.drew⟩
          case measure => simp [intOf]; omega
        · obtain rfl : k = m := by omega
          go_wp2_with fail
          go_roundw
          case rel => exact ⟨j + 1, by omega, by go_num, hS2⟩
          case measure => simp [intOf]; omega
    · obtain rfl : j = n := by omega
      go_wp2
      go_ret
      exact ⟨rfl, hSr⟩
end Go.Proofs.Ytpplnapfpoloiaa
