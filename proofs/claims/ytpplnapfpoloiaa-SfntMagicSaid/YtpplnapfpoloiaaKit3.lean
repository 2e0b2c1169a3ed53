/-
  Blocks that are known whole, as a function of the place: 'All'; copy into such a block.
-/
import Derived.Test.YtpplnapfpoloiaaKit2
namespace Go.Proofs.Ytpplnapfpoloiaa
open Go.RowKit

/-- Block g is just n cells of type e that read as V; none is frozen. -/
def All (w : World) (g : Nat) (e : TypeId) (n : Nat) (V : Nat → Value) : Prop := w.heap[g]? = some (.cells (tab n V).toArray e (0, 0))
section
variable {w w' : World} {g n : Nat} {e : TypeId} {V U : Nat → Value}
theorem All.lt (h : All w g e n V) : g < w.heap.size := by
  rcases Nat.lt_or_ge g w.heap.size with hlt | hge
  · exact hlt
  · unfold All at h; rw [Array.getElem?_eq_none hge] at h; cases h
theorem All.congr (h : All w g e n V) (k : ∀ j, j < n → V j = U j) : All w g e n U := by unfold All at h ⊢; rw [← tab_congr k]; exact h
theorem All.since (h : All w g e n V) (k : Since w w') : All w' g e n V := (k.below.block g h.lt).trans h
theorem All.row (h : All w g e n V) : Row w g n V := by
  refine ⟨fun j hj => ?_, fun j => ?_, h.lt⟩
  · unfold All at h
    simp [World.cell?, h, tab_get, hj]
  · unfold All at h
    simp [World.frozen?, h]
theorem All.of_own {base : Nat} (h : w.ownsRow base e 1 (.slice (some ⟨g, 0, none⟩) n n) n (tab n V)) : All w g e n V := by
  rcases h.2 with ⟨e1, _⟩ | ⟨g', cap, cur, e1, hb, hh, hnc, hcm, hcs, ht⟩
  · cases e1
  · injection e1 with e1 _ e2
    injection e1 with e1
    injection e1 with e1
    subst e1; subst e2
    unfold All
    rw [hh, ← ht, Nat.mul_one]
    have : cur.toList.take n = cur.toList := List.take_of_length_le (by simp [hcs])
    rw [this]
end
section
variable {P : Program} {w : World}
/-- copy into a block that is known whole. -/
theorem wpList_copy_all {ops : Array Oper} {rest : List Oper} {o : Oper} {a : Act} {Q : Exit → Act → World → Prop} (hgd : o.guard = none) (d s : Operand) (dT sT : TypeId)
    (ho : o.op = .call { callee := .builtin .copy, args := #[d, s], argTypes := #[dT, sT] }) (elem : TypeId) (hu : P.underlying dT = some (.slice elem)) (hsz : (P.info? elem).map (·.size) = some 1)
    (dp sp : Option Addr) (dLen dCap sLen sCap : Nat) (hd : a.eval d = .slice dp dLen dCap) (hs : a.eval s = .slice sp sLen sCap)
    (g off n m : Nat) (e : TypeId) (V U : Nat → Value) (hg : All w g e n V) (B : Nat) (hr : Rd w B sp sLen U) (hm : m = Nat.min sLen dLen) (hdp : 0 < m → dp = some ⟨g, off, none⟩) (hfit : off + m ≤ n) (h1 : ∀ u ∈ tab m U, u.oneCell' = true)
    (w0 : World) (hS : Since w0 w) (hB : w0.heap.size ≤ g)
    (h : ∀ w', All w' g e n (fun j => if off ≤ j ∧ j < off + m then U (j - off) else V j) → Since w0 w' → wpList P ops Q rest (a.put o.dst (goInt m)) w') :
    wpList P ops Q (o :: rest) a w := by
  refine wpList_copy_splice hgd d s dT sT ho elem hu hsz dp sp dLen dCap sLen sCap hd hs g off (tab n V) e hg (tab m U) (by rw [tab_len, hm]) (fun hp => ?_) (by rw [tab_len, tab_len]; exact hfit) h1 w0.heap.size w0 hS.below hB (fun w' hw hb => ?_)
  · rw [tab_len] at hp
    have hms : m ≤ sLen := by rw [hm]; exact Nat.min_le_left _ _
    obtain ⟨b, o', rfl, _, hc⟩ := hr (by omega)
    refine ⟨hdp hp, _, rfl, fun j v hj => ?_⟩
    rw [tab_get] at hj
    split at hj
    · rename_i hjm
      injection hj with hj; subst hj
      rw [← hc j (by omega)]
      unfold Addr.add; split <;> simp_all
    · cases hj
  · rw [show (tab m U).length = m from tab_len m U]
    refine h w' ?_ (since_of hb)
    have hw2 : w'.heap[g]? = some (.cells (splice (tab n V) off (tab m U)).toArray e (0, 0)) := hw
    unfold All
    rw [hw2]
    congr 3
    apply List.ext_getElem?
    intro j
    unfold splice
    rw [List.getElem?_append, List.getElem?_append, List.length_take, tab_len, tab_len, List.getElem?_take, tab_get, tab_get, tab_get, List.getElem?_drop, tab_get]
    by_cases hj : j < off
    · rw [if_pos (by omega), if_pos hj, if_pos (by omega), if_pos (by omega), if_neg (by omega)]
    · rw [if_neg (by omega)]
      by_cases hj2 : j < off + m
      · rw [if_pos (by omega), if_pos (by omega), if_pos (by omega), if_pos ⟨by omega, hj2⟩]
        congr 2; omega
      · rw [if_neg (by omega)]
        by_cases hj3 : j < n
        · rw [if_pos (by omega), if_pos hj3, if_neg (by omega)]
          congr 2; omega
        · rw [if_neg (by omega), if_neg hj3]
end
end Go.Proofs.Ytpplnapfpoloiaa
