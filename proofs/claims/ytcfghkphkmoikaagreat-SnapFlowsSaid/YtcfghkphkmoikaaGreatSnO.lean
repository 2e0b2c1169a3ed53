/-
  Layer 17: boxes in memory; slices.Chunk at boxes: what its iterator hands on.
-/
import Derived.RangeFuncNested
import Derived.RangeFuncBound
import Derived.RangeFuncCalls
import Derived.RangeFuncLeaves
import Derived.RangeFuncBox
import Derived.Shelf.Abstract
import Derived.Shelf.RegionOpen
import Derived.WalkKit
import Derived.OwnWalkIn
import Derived.TacticsInMore
import Derived.LoopNIn
import Derived.LoopIn
import Derived.Maps.AppendAt
import Derived.Test.YtcfghkphkmoikaaGreatSnK
import Derived.Test.YtcfghkphkmoikaaGreatMqH
namespace Go.Proofs.YtcfghkphkmoikaaGreat
set_option maxRecDepth 100000
open Go.RowKit Go.Shelf
set_option linter.unusedVariables false
attribute [local go_sem] Oper.semAt_some
def bxE (b : Bx) : List Value := [.int .i64 b.lx, .int .i64 b.ly, .int .i64 b.mx, .int .i64 b.my]
theorem bxE_len (b : Bx) : (bxE b).length = 4 := rfl
theorem bxE_one (b : Bx) : ∀ u ∈ bxE b, u.oneCell' = true := by
  intro u hu
  simp only [bxE, List.mem_cons, List.not_mem_nil, or_false] at hu
  rcases hu with rfl | rfl | rfl | rfl <;> rfl
theorem infoBx0 : (Tryz.prog.info? 130).map (fun i => (i.zero, i.size, i.bytes)) = some (some (.agg #[.int .i64 0, .int .i64 0, .int .i64 0, .int .i64 0]), 4, 32) := by kernel_rfl
theorem infoBx : ∃ i z, Tryz.prog.info? 130 = some i ∧ i.zero = some z ∧ i.size = 4 ∧ i.bytes = 32 ∧ z.cells.size = 4 := by
  obtain ⟨i0, hi, hz0, hz1, hz2⟩ := info_parts infoBx0
  exact ⟨i0, _, hi, hz0, hz1, hz2, rfl⟩
/-- The number of a group of eight of n things. -/
abbrev Ch (n : Nat) := { i : Nat // 8 * i < n }
def chE (b o n : Nat) (i : Ch n) : Array Value := #[.slice (some ⟨b, o + 8 * i.1 * 4, none⟩) (min 8 (n - 8 * i.1)) (min 8 (n - 8 * i.1))]
/-- All blocks below n₁ but q stand. -/
def KpO (q n₁ : Nat) (W W' : World) : Prop := ∀ b, b < n₁ → b ≠ q → W'.heap[b]? = W.heap[b]?
theorem KpO.refl (q n₁ : Nat) (W : World) : KpO q n₁ W W := fun _ _ _ => rfl
theorem KpO.trans {q n₁ : Nat} {A B C : World} (h : KpO q n₁ A B) (k : KpO q n₁ B C) : KpO q n₁ A C := fun b h1 h2 => (k b h1 h2).trans (h b h1 h2)
theorem KpO.turn {q n₁ : Nat} {w : World} (hn : n₁ ≤ w.heap.size) (W : World) (l : Nat) (o o' : Obj) (hl : w.heap.size ≤ l) (h : W.heap[l]? = some o) (_ : o.isCells = false) (_ : o.isWalk = false) : KpO q n₁ W (W.putObj l o') := fun b h1 _ => World.putObj_heap_other (by omega)
theorem KpO.cell {q n₁ : Nat} {A B : World} (h : KpO q n₁ A B) {b o : Nat} (h1 : b < n₁) (h2 : b ≠ q) : B.cell? ⟨b, o, none⟩ = A.cell? ⟨b, o, none⟩ := by simp only [World.cell?, h b h1 h2]
theorem wrap8 {k n : Nat} (h : 8 * k ≤ n + 8) (hn : n ≤ 1000000000) : wrap64 (((8 * k : Nat) : Int) + 8) = ((8 * (k + 1) : Nat) : Int) := by unfold wrap64; omega
set_option maxRecDepth 100000 in
set_option maxHeartbeats 4000000 in
theorem sn_chunk1 (l Bs q n₁ b o n c : Nat) (hn : n ≤ 1000000000) (hc : n ≤ c) (hBs : Bs + 1 < n₁) (hq : q < Bs) (J Jx : List (Ch n) → World → Prop) (B : Nat) (hJ : AbidesFrom B J)
    (hY : ∀ pre x W, J pre W → pre.length < (n + 7) / 8 → YieldAt Fence.wide 8 Tryz.prog l (chE b o n x) W fun e W' =>
      (e = .returned (.bool true) ∧ J (pre ++ [x]) W' ∧ KpO q n₁ W W') ∨ (e = .returned (.bool false) ∧ Jx (pre ++ [x]) W'))
    (W : World) (hB1 : W.cell? ⟨Bs, 0, none⟩ = some (.slice (some ⟨b, o, none⟩) n c)) (hB2 : W.cell? ⟨Bs + 1, 0, none⟩ = some (.int .i64 8)) (h0 : J [] W) :
    CallsIn Fence.wide 9 Tryz.prog 132 #[.func (.yield l) #[] #[], .pointer (some ⟨Bs, 0, none⟩), .pointer (some ⟨Bs + 1, 0, none⟩)] W fun e W' => (∃ v, e = .returned v) ∧
      ((∃ ys, ys.map Subtype.val = List.range ((n + 7) / 8) ∧ J ys W') ∨ (∃ pre, True ∧ Jx pre W')) := by
  refine callsIn_of_wp Tryz.func132 rfl trivial ?_ rfl
  simp only [Tryz.ntmps132, List.size_toArray, List.length_cons, List.length_nil, Nat.reduceAdd, Nat.reduceSub, Array.replicate_succ, Array.replicate_zero, List.push_toArray, List.append_toArray, List.nil_append, List.cons_append]
  gi_wp2
  gi_loopw [4] (fun i wr => ∃ (k : Nat) (ys : List (Ch n)), 8 * k ≤ n + 7 ∧ i = .int .i64 ((8 * k : Nat) : Int) ∧ ys.map Subtype.val = List.range k ∧ J ys wr ∧ KpO q n₁ W wr)
    (fun i _ => n + 8 - (intOf i).toNat)
  case atStart => exact ⟨0, [], by omega, rfl, rfl, h0, KpO.refl _ _ _⟩
  case round =>
    obtain ⟨k, ys, hk, rfl, hys, hJs, hKp⟩ := hrel
    have c1 := (hKp.cell (b := Bs) (o := 0) (by omega) (by omega)).trans hB1
    have c2 := (hKp.cell (b := Bs + 1) (o := 0) (by omega) (by omega)).trans hB2
    by_cases hlt : 8 * k < n
    · have hyl : ys.length = k := by
        have := congrArg List.length hys
        simpa using this
      have hJd : J ys wr.drew := hJ _ wr wr.drew none hJs ⟨rfl, rfl, rfl, Nat.le_refl _, fun _ _ _ => rfl⟩ (fun r e => by cases e)
      have hKd : KpO q n₁ W wr.drew := hKp
      obtain ⟨fn, tmps, assign, body, hy, hR⟩ := hY ys ⟨k, hlt⟩ wr.drew hJd (by omega)
      dsimp only [chE] at hy
      have hmin := min2_run
      have hlo : lo2 8 ((n - 8 * k : Nat) : Int) = ((min 8 (n - 8 * k) : Nat) : Int) := by unfold lo2; split <;> omega
      obtain ⟨E, hE⟩ : ∃ E, min 8 (n - 8 * k) = E := ⟨_, rfl⟩
      rw [hE] at hlo hy
      have hE1 : 8 * k + E ≤ n := by omega
      have hE2 : IntKind.i64.wrap (8 * (k : Int) + (E : Int)) = ((8 * k + E : Nat) : Int) := (IntWalk.i64_in _ (by omega)).trans (by omega)
      have hE3 : 8 * k + E ≤ c := by omega
      have hE4 : 8 * k + E - 8 * k = E := by omega
      have hE0 : E ≠ 0 := by omega
      have hE5 : 0 < E := by omega
      have hE6 : ¬ n ≤ 8 * k := by omega
      have hE7 : ¬ c ≤ 8 * k := by omega
      have hE8 : n - 8 * k ≠ 0 := by omega
      have hE9 : c - 8 * k ≠ 0 := by omega
      clear hE
      gi_wp2
      gi_region
      gi_wp2
      refine hR.mono ?_
      rintro e W3 (⟨rfl, hJ3, hk3⟩ | ⟨rfl, hJx3⟩)
      · have hK3 := hKd.trans hk3
        have d2 := (hK3.cell (b := Bs + 1) (o := 0) (by omega) (by omega)).trans hB2
        have hw8 : IntKind.i64.wrap (8 * (k : Int) + 8) = ((8 * (k + 1) : Nat) : Int) := (IntWalk.i64_in _ (by omega)).trans (by omega)
        gi_wp2
        go_roundw
        case rel => exact ⟨k + 1, ys ++ [⟨k, hlt⟩], by omega, by first | rfl | go_num | (simp; omega), by rw [List.map_append, hys, List.range_succ]; rfl, hJ3, hK3⟩
        case measure => (simp only [intOf]; omega)
      · gi_wp2
        refine bodyPost_ret (results_none rfl _ _ _) rfl ?_
        exact ⟨⟨_, rfl⟩, .inr ⟨_, trivial, hJx3⟩⟩
    · gi_wp2
      go_end0
      exact ⟨⟨_, rfl⟩, .inl ⟨ys, by rw [hys, show k = (n + 7) / 8 by omega], hJs⟩⟩
theorem sn_chunk (A : Option Addr) (n c m : Nat) (w : World) : CallsIn Fence.wide m Tryz.prog 102 #[.slice A n c, .int .i64 8] w fun e w' => e = .returned (.func (.func 132) #[] #[.pointer (some ⟨w.heap.size, 0, none⟩), .pointer (some ⟨w.heap.size + 1, 0, none⟩)]) ∧ w' = (w.alloc (.cells #[.slice A n c] 128)).alloc (.cells #[.int .i64 8] 3) := by
  refine callsIn_of_wp Tryz.func102 rfl trivial ?_ rfl
  simp only [Tryz.ntmps102, List.size_toArray, List.length_cons, List.length_nil, Nat.reduceAdd, Nat.reduceSub, Array.replicate_succ, Array.replicate_zero, List.push_toArray, List.append_toArray, List.nil_append, List.cons_append]
  gi_wp2
  go_ret
  exact ⟨rfl, rfl⟩
theorem sn_chunk_stops (q n₁ Bs b o n c : Nat) (hn : n ≤ 1000000000) (hc : n ≤ c) (hBs : Bs + 1 < n₁) (hq : q < Bs) (w : World) (hw : n₁ ≤ w.heap.size) (hB1 : w.cell? ⟨Bs, 0, none⟩ = some (.slice (some ⟨b, o, none⟩) n c)) (hB2 : w.cell? ⟨Bs + 1, 0, none⟩ = some (.int .i64 8)) :
    SeqStopsK Fence.wide 9 Tryz.prog 132 #[.pointer (some ⟨Bs, 0, none⟩), .pointer (some ⟨Bs + 1, 0, none⟩)] (chE b o n) (KpO q n₁) (fun ys => ys.map Subtype.val = List.range ((n + 7) / 8)) (fun _ => True) ((n + 7) / 8) w := fun l J Jx W hW hJ _ hY h0 =>
  sn_chunk1 l Bs q n₁ b o n c hn hc hBs hq J Jx _ hJ hY W ((hW.cell (p := ⟨Bs, 0, none⟩) (by show Bs < _; omega)).trans hB1) ((hW.cell (p := ⟨Bs + 1, 0, none⟩) (by show Bs + 1 < _; omega)).trans hB2) h0
end Go.Proofs.YtcfghkphkmoikaaGreat
