/-
  Rows told by a list: parts of what is read; append in a region that draws its order.
-/
import Derived.Test.YtpplnapfpoloiaaKitG
namespace Go.Proofs.Ytpplnapfpoloiaa
open Go.RowKit Go.ChangeShapes Go.WideShapes Go.Deep
set_option linter.unusedVariables false

theorem OwnG.empty {α : Type} {enc : α → List Value} {k : Nat} (t : TypeId) (w : World) (base b : Nat) (hb : b = w.heap.size) (hbase : base ≤ w.heap.size) : OwnG t k enc (w.alloc (.cells #[] t)) base (.slice (some ⟨b, 0, none⟩) 0 0) [] := by
  subst hb
  exact ⟨by simp [cellsG], .inr ⟨w.heap.size, 0, _, rfl, hbase, heap_alloc_new w _, Nat.le_refl _, by simp [maxLen], by simp, by simp [cellsG]⟩⟩
theorem RdG.drop {α : Type} {enc : α → List Value} {k : Nat} {w : World} {B b o : Nat} {L : List α} (h : RdG k enc w B (some ⟨b, o, none⟩) L) (d : Nat) : RdG k enc w B (some ⟨b, o + d * k, none⟩) (L.drop d) := fun hn => by
  obtain ⟨b', o', e, hb, hc⟩ := h (by rw [List.length_drop] at hn; omega)
  injection e with e
  injection e with e1 e2
  subst e1 e2
  refine ⟨b, o + d * k, rfl, hb, fun j s hj i hi => ?_⟩
  rw [List.getElem?_drop] at hj
  have h1 := hc (d + j) s hj i hi
  rw [Nat.add_mul, ← Nat.add_assoc] at h1
  exact h1
theorem RdG.take {α : Type} {enc : α → List Value} {k : Nat} {w : World} {B : Nat} {A : Option Addr} {L : List α} (h : RdG k enc w B A L) (d : Nat) : RdG k enc w B A (L.take d) := fun hn => by
  obtain ⟨b, o, rfl, hb, hc⟩ := h (by rw [List.length_take] at hn; omega)
  refine ⟨b, o, rfl, hb, fun j s hj i hi => hc j s ?_ i hi⟩
  rw [List.getElem?_take] at hj
  split at hj
  · exact hj
  · cases hj
section
variable {α : Type} {k : Nat} {enc : α → List Value} {P : Program}
theorem oper_append_g {w : World} {o : Oper} {a : Act} {K : Act → World → Prop} {Q : Exit → Act → World → Prop} (s x : Operand) (t e : TypeId)
    (ho : o.op = .call { callee := .builtin .append, args := #[s, x], argTypes := #[t, t] }) (hk0 : 0 < k) (hk : ∀ a, (enc a).length = k) (h1 : ∀ a, ∀ u ∈ enc a, u.oneCell' = true) (bytes : Nat)
    (ht : P.underlying t = some (.slice e)) (hinfo : ∃ i z, P.info? e = some i ∧ i.zero = some z ∧ i.size = k ∧ i.bytes = bytes ∧ z.cells.size = k)
    (base : Nat) (v : Value) (L : List α) (hs : a.eval s = v) (hown : OwnG e k enc w base v L) (B : Nat) (A : Option Addr) (n c : Nat) (M : List α) (hn : n = M.length) (hx : a.eval x = .slice A n c) (hr : RdG k enc w B A M)
    (hbytes : (L.length + M.length) * bytes ≤ 140737488355328) (h63 : L.length + M.length ≤ maxLen) (hbase : base ≤ w.heap.size)
    (h : ∀ v' w', OwnG e k enc w' base v' (L ++ M) → w.grownBy w' v.ownBlock → (∀ q, v.ownBlock = some q → base ≤ q ∧ q < w.heap.size) → K (a.put o.dst v') w') :
    Oper.wp P o a w K Q := by
  subst hn
  obtain ⟨i, z, hi, hz, hsz, hby, hzs⟩ := hinfo
  have hrr : Rd w B A (M.length * k) (fun j => (cellsG enc M).getD j undef) := fun hn => by
    have hM : 0 < M.length := by
      rcases Nat.eq_zero_or_pos M.length with h | h
      · rw [h, Nat.zero_mul] at hn; omega
      · exact h
    obtain ⟨b, o', rfl, hb, hc⟩ := hr hM
    refine ⟨b, o', rfl, hb, fun j hj => ?_⟩
    have hjk : j / k < M.length := by rw [Nat.div_lt_iff_lt_mul hk0]; exact hj
    have hm := Nat.mod_lt j hk0
    have hg := hc (j / k) _ (List.getElem?_eq_getElem hjk) (j % k) hm
    have hg2 := cellsG_get hk M (j / k) _ (List.getElem?_eq_getElem hjk) (j % k) hm
    rw [Nat.div_add_mod' j k] at hg2
    rw [Nat.add_assoc, Nat.div_add_mod' j k] at hg
    show _ = some ((cellsG enc M).getD j undef)
    rw [List.getD_eq_getElem?_getD, hg2, ← List.getD_eq_getElem?_getD]
    exact hg
  have hone : ∀ u ∈ tab (M.length * k) (fun j => (cellsG enc M).getD j undef), u.oneCell' = true := by
    rw [← cellsG_tab hk]
    intro u hu
    unfold cellsG at hu
    rw [List.mem_flatMap] at hu
    obtain ⟨a, _, ha⟩ := hu
    exact h1 a u ha
  have hlt := fun q (hq : v.ownBlock = some q) => hown.lt hq
  obtain ⟨v', w', hrun, h2, h3⟩ := run_append_k (P := P) w base t o.type e i z k bytes ht hi hz hsz hby hzs hk0 v L.length (cellsG enc L) hown B A M.length c _ hrr hone hbytes h63 hbase
  rw [← cellsG_tab hk, ← cellsG_append] at h2
  unfold Oper.wp execOp
  simp only [ho, resolve, invoke, builtin, Sem.run_bind, Sem.run_pure, Result.andThen_ok, List.map_toArray, List.map_cons, List.map_nil, hs, hx, hrun]
  refine h v' w' ?_ h3 hlt
  unfold OwnG
  rw [List.length_append]
  exact h2
end
end Go.Proofs.Ytpplnapfpoloiaa
