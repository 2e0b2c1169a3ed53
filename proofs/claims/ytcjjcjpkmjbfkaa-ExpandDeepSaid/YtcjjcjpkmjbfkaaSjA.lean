/-
  Layer 7: the reference's Write: what its first loops hold.
-/
import Derived.Test.YtcjjcjpkmjbfkaaMhJ
import Derived.Test.YtcjjcjpkmjbfkaaMhE
namespace Go.Proofs.Ytcjjcjpkmjbfkaa
open Go.RowKit Go.ChangeShapes Go.WideShapes Go.Deep
set_option linter.unusedVariables false
set_option linter.unusedSimpArgs false

/-- The four rows that the reference makes. -/
structure RwIn (w : World) (v1 v2 v3 v4 : Value) (FS XS YS ES : List Int) (wr : World) : Prop where
  f : OwnI wr w.heap.size v1 FS
  x : OwnB wr w.heap.size v2 XS
  y : OwnB wr w.heap.size v3 YS
  e : OwnB wr w.heap.size v4 ES
  xy : Apart7 v2 v3
  xe : Apart7 v2 v4
  ye : Apart7 v3 v4
  s : Since w wr
section
variable {w wr w' : World} {v1 v2 v3 v4 v' : Value} {FS XS YS ES G : List Int}
theorem RwIn.since (h : RwIn w v1 v2 v3 v4 FS XS YS ES wr) (k : Since wr w') : RwIn w v1 v2 v3 v4 FS XS YS ES w' :=
  ⟨h.f.since k, h.x.since k, h.y.since k, h.e.since k, h.xy, h.xe, h.ye, h.s.trans k⟩
theorem RwIn.flag (h : RwIn w v1 v2 v3 v4 FS XS YS ES wr) (hO : OwnI w' w.heap.size v' G) (hg : wr.grownBy w' v1.ownBlock) (hS : Since w w') : RwIn w v' v2 v3 v4 G XS YS ES w' :=
  ⟨hO, h.x.growA hg (apart_type h.f h.x int_byte_ne), h.y.growA hg (apart_type h.f h.y int_byte_ne), h.e.growA hg (apart_type h.f h.e int_byte_ne), h.xy, h.xe, h.ye, hS⟩
theorem RwIn.xs (h : RwIn w v1 v2 v3 v4 FS XS YS ES wr) (hO : OwnB w' w.heap.size v' G) (hg : wr.grownBy w' v2.ownBlock) (hw : v'.ownBlock = v2.ownBlock ∨ v'.ownBlock = some wr.heap.size) (hS : Since w w') : RwIn w v1 v' v3 v4 FS G YS ES w' :=
  ⟨h.f.growA hg (apart_type h.x h.f (Ne.symm int_byte_ne)), hO, h.y.growA hg h.xy, h.e.growA hg h.xe, h.xy.grow h.y hw, h.xe.grow h.e hw, h.ye, hS⟩
theorem RwIn.ys (h : RwIn w v1 v2 v3 v4 FS XS YS ES wr) (hO : OwnB w' w.heap.size v' G) (hg : wr.grownBy w' v3.ownBlock) (hw : v'.ownBlock = v3.ownBlock ∨ v'.ownBlock = some wr.heap.size) (hS : Since w w') : RwIn w v1 v2 v' v4 FS XS G ES w' :=
  ⟨h.f.growA hg (apart_type h.y h.f (Ne.symm int_byte_ne)), h.x.growA hg h.xy.symm, hO, h.e.growA hg h.ye, (h.xy.symm.grow h.x hw).symm, h.xe, h.ye.grow h.e hw, hS⟩
theorem RwIn.es (h : RwIn w v1 v2 v3 v4 FS XS YS ES wr) (hO : OwnB w' w.heap.size v' G) (hg : wr.grownBy w' v4.ownBlock) (hw : v'.ownBlock = v4.ownBlock ∨ v'.ownBlock = some wr.heap.size) (hS : Since w w') : RwIn w v1 v2 v3 v' FS XS YS G w' :=
  ⟨h.f.growA hg (apart_type h.e h.f (Ne.symm int_byte_ne)), h.x.growA hg h.xe.symm, h.y.growA hg h.ye.symm, hO, h.xy, (h.xe.symm.grow h.x hw).symm, (h.ye.symm.grow h.y hw).symm, hS⟩
end
/-- A step's bytes beside the rows. -/
theorem own_beside {w1 w2 : World} {v u : Value} {b b2 : Nat} {M L : List Int} (h1 : OwnB w1 b v L) (h2 : OwnB w2 w1.heap.size u M) {w3 w4 : World} (h3 : OwnB w3 b2 u M) (hg : w3.grownBy w4 v.ownBlock) : OwnB w4 b2 u M := h3.growA hg (apart_new h1 h2)
theorem fl7_sum (on : Bool) (dx dy : Int) : (if on then sfl7 2 16 dx + 1 else sfl7 2 16 dx) + sfl7 4 32 dy = fl7 on dx dy := by
  unfold fl7; cases on <;> simp <;> omega
theorem sfl7_in (dx dy : Int) : 0 ≤ sfl7 2 16 dx ∧ sfl7 2 16 dx ≤ 18 ∧ 0 ≤ sfl7 4 32 dy ∧ sfl7 4 32 dy ≤ 36 := by
  rcases sfl7_x dx with ⟨_, h⟩ | ⟨_, _, h⟩ | ⟨_, _, h⟩ | ⟨_, h⟩ <;> rcases sfl7_y dy with ⟨_, k⟩ | ⟨_, _, k⟩ | ⟨_, _, k⟩ | ⟨_, k⟩ <;> rw [h, k] <;> decide
theorem glE_4 {LL : List (List Kt)} {C : List Int} {j : Nat} {L : List Kt} (hL : LL[j]? = some L) (hl : L.length = 0) : glE LL C = 4 := by
  have h0 : LL ≠ [] := fun e => by rw [e] at hL; simp at hL
  rw [glE_chk C h0]
  unfold chkE
  rw [if_pos]
  have := List.mem_map_of_mem (f := List.length) (List.mem_of_getElem? hL)
  rw [hl] at this
  exact this
theorem glE_7 {LL : List (List Kt)} {C : List Int} (h0 : LL ≠ []) (hz : 0 ∉ LL.map List.length) (h : 4096 < sumL LL ∨ 65535 < C.length) : glE LL C = 7 := by
  rw [glE_chk C h0]
  unfold chkE
  rw [if_neg hz, if_pos h]
theorem glE_6 {LL : List (List Kt)} {C : List Int} {j k : Nat} {L : List Kt} {x : Kt} (hz : 0 ∉ LL.map List.length) (h1 : ¬ (4096 < sumL LL ∨ 65535 < C.length)) (hL : LL[j]? = some L) (hx : L[k]? = some x) (hbad : ¬ (Sh x.x ∧ Sh x.y ∧ Sh (x.x - (lastK ((LL.take j).flatten ++ L.take k)).x) ∧ Sh (x.y - (lastK ((LL.take j).flatten ++ L.take k)).y))) : glE LL C = 6 := by
  have h0 : LL ≠ [] := fun e => by rw [e] at hL; simp at hL
  rw [glE_chk C h0]
  exact chk_bad hz h1 hL hx hbad
theorem glE_0 {LL : List (List Kt)} {C : List Int} (h0 : LL ≠ []) (hz : 0 ∉ LL.map List.length) (h1 : ¬ (4096 < sumL LL ∨ 65535 < C.length)) (hok : OkK LL.flatten) : glE LL C = 0 := by
  rw [glE_chk C h0]
  unfold chkE
  rw [if_neg hz, if_neg h1, if_pos]
  exact hok
theorem glB_err {LL : List (List Kt)} {C : List Int} (he : glE LL C ≠ 0) : glB LL C = [] := by unfold glB; rw [if_neg he]
theorem sumL_mono (LL : List (List Kt)) (j : Nat) : sumL (LL.take j) ≤ sumL LL := by
  have h : sumL LL = sumL (LL.take j) + sumL (LL.drop j) := by
    unfold sumL
    rw [← List.sum_append_nat, ← List.map_append, List.take_append_drop]
  omega
end Go.Proofs.Ytcjjcjpkmjbfkaa
