/-
  'copy' of knots into an own row; slices.Reverse of an own row of knots.
-/
import Derived.Test.YtpplnapfpoloiaaKitQ
import Derived.Laws.CopyOwn
namespace Go.Proofs.Ytpplnapfpoloiaa
open Go.RowKit Go.ChangeShapes Go.WideShapes Go.Deep
set_option linter.unusedVariables false

section
variable {P : Program}
theorem run_copy_rowk (w : World) (dT sT ty elem : TypeId) (g o dLen dCap : Nat) (a : Addr) (sLen sCap k : Nat) (cur : Array Value) (t : TypeId) (cs : List Value) (i : TypeInfo)
    (hu : P.underlying dT = some (.slice elem)) (hq : P.info? elem = some i) (hi : i.size = k)
    (hg : w.heap[g]? = some (.cells cur t (0, 0))) (hn : cs.length = Nat.min sLen dLen * k)
    (hsrc : ∀ j v, cs[j]? = some v → w.cell? (a.add j) = some v) (hfit : o + cs.length ≤ cur.size) (h1 : ∀ v ∈ cs, v.oneCell' = true) :
    (Builtin.copy_ #[dT, sT] ty #[.slice (some ⟨g, o, none⟩) dLen dCap, .slice (some a) sLen sCap]).run P w =
      .ok (goInt (Nat.min sLen dLen)) (w.setRow g (cur.toList.take o ++ cs ++ cur.toList.drop (o + cs.length)).toArray) := by
  have hl := run_loadCells_list (P := P) w a cs hsrc
  have hst := run_storeCells_at P g o t cs 0 cur w hg (by simpa using hfit) h1
  simp [Builtin.copy_, run_underlying hu, Builtin.lenOf, Builtin.firstCells, sizeOf, typeInfo, hq, hi, ← hn, hl, hst]
end
theorem since_setRow {w0 w : World} {q : Nat} (h : Since w0 w) (hq : w0.heap.size ≤ q) (cs : Array Value) : Since w0 (w.setRow q cs) := since_of (below_setRow h.below hq cs)
theorem keep_setRow (w : World) (q : Nat) (cs : Array Value) : KeepBut q w (w.setRow q cs) := ⟨by simp, fun b _ hb => setRow_other w q b cs hb⟩
theorem wpList_copy_kn {w : World} {ops : Array Oper} {rest : List Oper} {o : Oper} {a : Act} {Q : Exit → Act → World → Prop} (hgd : o.guard = none) (d s : Operand)
    (ho : o.op = .call { callee := .builtin .copy, args := #[d, s], argTypes := #[71, 71] }) (base q n c : Nat) (A : Option Addr) (L0 L : List Kt)
    (hd : a.eval d = .slice (some ⟨q, 0, none⟩) n n) (hs : a.eval s = .slice A n c) (hown : OwnK w base (.slice (some ⟨q, 0, none⟩) n n) L0) (hL0 : L0.length = n) (hL : L.length = n) (B : Nat) (hr : RdKl w B A L) (hn0 : 0 < n)
    (h : ∀ w', OwnK w' base (.slice (some ⟨q, 0, none⟩) n n) L → KeepBut q w w' → (∀ w0, Since w0 w → w0.heap.size ≤ q → Since w0 w') → wpList Try.prog ops Q rest (a.put o.dst (goInt n)) w') :
    wpList Try.prog ops Q (o :: rest) a w := by
  obtain ⟨i, z, hi, hz, hsz, hby, _⟩ := infoKn
  obtain ⟨b, oo, rfl, hb, hc⟩ := hr (by omega)
  rcases hown.2 with ⟨h0, _⟩ | ⟨g, cap, cur, h0, hbg, hh, hnc, hcm, hcs, htk⟩
  · cases h0
  · injection h0 with h0 h0a h0b
    injection h0 with h0
    injection h0 with h0 _
    subst h0
    subst h0b
    have hlen : (cellsG knL L).length = n * 3 := by rw [cellsG_len knL_len, hL]
    have hsrc : ∀ j v, (cellsG knL L)[j]? = some v → w.cell? ((⟨b, oo, none⟩ : Addr).add j) = some v := fun j v hj => by
      have hjl : j < n * 3 := by
        rcases Nat.lt_or_ge j (n * 3) with h | h
        · exact h
        · rw [List.getElem?_eq_none (by omega)] at hj; cases hj
      have hjn : j / 3 < L.length := by omega
      have h1 := hc (j / 3) _ (List.getElem?_eq_getElem hjn) (j % 3) (Nat.mod_lt _ (by omega))
      have h2 := cellsG_get knL_len L (j / 3) _ (List.getElem?_eq_getElem hjn) (j % 3) (Nat.mod_lt _ (by omega))
      rw [show j / 3 * 3 + j % 3 = j by omega] at h2
      rw [h2] at hj
      rw [add_plain]
      rw [show oo + j / 3 * 3 + j % 3 = oo + j by omega] at h1
      rw [h1, List.getD_eq_getElem?_getD, hj]
      rfl
    have hone : ∀ v ∈ cellsG knL L, v.oneCell' = true := by
      intro u hu
      unfold cellsG at hu
      rw [List.mem_flatMap] at hu
      obtain ⟨x, _, hx⟩ := hu
      exact knL_one x u hx
    have hrun := run_copy_rowk (P := Try.prog) w 71 71 o.type 76 q 0 n n ⟨b, oo, none⟩ n c 3 cur 76 (cellsG knL L) i Try.underlying71 hi hsz hh (by rw [hlen]; simp) hsrc (by rw [hlen, hcs]; omega) hone
    refine wpList_plain hgd fun K hK => ?_
    have hmin : Nat.min n n = n := Nat.min_self n
    rw [hmin] at hrun
    have hrow : List.take 0 cur.toList ++ cellsG knL L ++ List.drop (0 + (cellsG knL L).length) cur.toList = cellsG knL L := by
      rw [List.take_zero, List.nil_append, Nat.zero_add, hlen, List.drop_eq_nil_of_le (by rw [Array.length_toList, hcs]; omega), List.append_nil]
    rw [hrow] at hrun
    unfold Oper.wp execOp
    simp only [ho, resolve, invoke, builtin, Sem.run_bind, Sem.run_pure, Result.andThen_ok, List.map_toArray, List.map_cons, List.map_nil, hd, hs, hrun]
    refine hK _ _ (h _ ⟨cellsG_len knL_len L, .inr ⟨q, n, (cellsG knL L).toArray, by rw [hL], hbg, setRow_heap w q cur _ _ _ hh, by omega, hcm, by simp [hlen], ?_⟩⟩ (keep_setRow w q _) (fun w0 hS hq => since_setRow hS hq _))
    rw [hL, List.take_of_length_le (by simp [hlen])]
set_option maxRecDepth 100000 in
theorem wpList_copy_zero {w : World} {ops : Array Oper} {rest : List Oper} {o : Oper} {a : Act} {Q : Exit → Act → World → Prop} (hgd : o.guard = none) (d s : Operand)
    (ho : o.op = .call { callee := .builtin .copy, args := #[d, s], argTypes := #[71, 71] }) (base q c : Nat) (A : Option Addr) (L0 : List Kt)
    (hd : a.eval d = .slice (some ⟨q, 0, none⟩) 0 0) (hs : a.eval s = .slice A 0 c) (hown : OwnK w base (.slice (some ⟨q, 0, none⟩) 0 0) L0)
    (h : wpList Try.prog ops Q rest (a.put o.dst (goInt 0)) w) : wpList Try.prog ops Q (o :: rest) a w := by
  obtain ⟨i, z, hi, hz, hsz, hby, _⟩ := infoKn
  have hrun : (Builtin.copy_ #[71, 71] o.type #[.slice (some ⟨q, 0, none⟩) 0 0, .slice A 0 c]).run Try.prog w = .ok (goInt 0) w := by
    rcases A with _ | ad
    · simp [Builtin.copy_, run_underlying Try.underlying71, Builtin.lenOf, Builtin.firstCells, sizeOf, typeInfo, hi, storeCells]
    · rcases hown.2 with ⟨h0, _⟩ | ⟨g, cap, cur, h0, hbg, hh, _⟩
      · cases h0
      · injection h0 with h0 h0a h0b
        injection h0 with h0
        injection h0 with h0 _
        subst h0
        have hr := run_copy_rowk (P := Try.prog) w 71 71 o.type 76 q 0 0 0 ad 0 c 3 cur 76 [] i Try.underlying71 hi hsz hh (by simp) (fun j v hj => by simp at hj) (by simp) (fun v hv => by cases hv)
        have e : (List.take 0 cur.toList ++ [] ++ List.drop (0 + ([] : List Value).length) cur.toList).toArray = cur := by simp
        rw [e, setRow_self w q cur _ _ hh] at hr
        exact hr
  refine wpList_plain hgd fun K hK => ?_
  unfold Oper.wp execOp
  simp only [ho, resolve, invoke, builtin, Sem.run_bind, Sem.run_pure, Result.andThen_ok, List.map_toArray, List.map_cons, List.map_nil, hd, hs, hrun]
  exact hK _ _ h
end Go.Proofs.Ytpplnapfpoloiaa
