/-
  Texts of this seat, put together: each with its own head.
-/
import Derived.Test.YtdbenpncnkfliaaFlBh
import Derived.Laws.CopyOwn

/-
  Layer 11: the reference's 'Flip', both 'Knots', walked.
-/
namespace Go.Proofs.Ytdbenpncnkfliaa
open Go.RowKit Go.ChangeShapes Go.WideShapes Go.Deep
set_option linter.unusedVariables false

set_option maxRecDepth 1000000 in
set_option maxHeartbeats 16000000 in
theorem rf_flip (A : Option Addr) (c : Nat) (LL : List (List Kt)) (w : World) (h : RdOL w w.heap.size A LL) (hn : LL.length ≤ 1000000) (hm : ∀ L, L ∈ LL → L.length ≤ 1000000) :
    Calls Try.prog 24 #[.slice A LL.length c] w fun e w' => ∃ A' c', e = .returned (.slice A' LL.length c') ∧ RdOL w' w'.heap.size A' (LL.map List.reverse) ∧ Since w w' := by
  obtain ⟨N, hN⟩ : ∃ N, N = LL.length := ⟨_, rfl⟩
  rw [← hN] at hn ⊢
  have HN := Lib.hid hN
  have HM := Lib.hid hm
  clear hN hm
  go_enter Try.func24, Try.ntmps24
  go_wp2_with fail
  go_loopw [3, 10] (fun v y wr => ∃ (j : Nat), j ≤ N ∧ y = .int .i64 (j : Int) ∧ OwnO wr w.heap.size v ((LL.take j).map List.reverse) ∧ Since w wr) (fun _ y _ => N - (intOf y).toNat)
  case atStart => exact ⟨0, by omega, rfl, OwnO.nil _ _, Since.refl _⟩
  case round =>
    obtain ⟨j, hj, rfl, hO, hS⟩ := hrel
    by_cases hjn : j < N
    · have hjn' : (j : Int) < N := by omega
      have hjL : j < LL.length := by rw [← HN.out]; exact hjn
      have hL : LL[j]? = some LL[j] := List.getElem?_eq_getElem hjL
      have hml := HM.out _ (List.mem_of_getElem? hL)
      have htk : (LL.take (j + 1)).map List.reverse = (LL.take j).map List.reverse ++ [LL[j].reverse] := by rw [List.take_succ_eq_append_getElem hjL, List.map_append]; rfl
      have HTK := Lib.hid htk
      have hlt : ((LL.take j).map List.reverse).length ≤ 1000000 := by rw [List.length_map, List.length_take]; omega
      have HLT := Lib.hid hlt
      clear htk hlt
      generalize LL[j] = L at *
      obtain ⟨b, o, A', c', rfl, hb, hcell, hK⟩ := h.row hL
      have c1 := (hS.1 _ _ hb).trans hcell
      have hbw1 := hS.2.2.1 _ hb
      obtain ⟨n, hnl⟩ : ∃ n, n = L.length := ⟨_, rfl⟩
      rw [← hnl] at hml c1
      have HNL := Lib.hid hnl
      clear hL h hcell hjL hnl
      generalize (LL.take j).map List.reverse = LJ at *
      obtain ⟨bs, hbs⟩ : ∃ bs, bs = wr.heap.size := ⟨_, rfl⟩
      have hbs1 : wr.heap.size ≤ bs := by omega
      have hbs2 : bs ≤ wr.heap.size := by omega
      clear hbs
      have u0 : IntKind.i64.wrap ((n : Int) - 1) = (n : Int) - 1 := IntWalk.i64_in _ (by omega)
      go_wp2_with fail
      go_loopw [6, 7] (fun v y wr' => ∃ k : Nat, k ≤ n ∧ y = .int .i64 ((n : Int) - 1 - (k : Int)) ∧ OwnK wr' bs v (L.reverse.take k) ∧ Since wr wr') (fun _ y _ => (intOf y + 1).toNat)
      case atStart => exact ⟨0, by omega, by simp, OwnG.nil _ _ _ _ _, Since.refl _⟩
      case round =>
        obtain ⟨k, hk, rfl, hOk, hSr⟩ := hrel
        by_cases hkn : k < n
        · obtain ⟨J, hJ⟩ : ∃ J, J = n - 1 - k := ⟨_, rfl⟩
          have hJI : (n : Int) - 1 - (k : Int) = (J : Int) := by omega
          have hJn : J < n := by omega
          have hJn' : (J : Int) < (n : Int) := by omega
          have hJ0 : decide ((0 : Int) ≤ (J : Int)) = true := decide_eq_true (by omega)
          have hJ1 : (0 : Int) ≤ (J : Int) := by omega
          have hkl : J < L.length := by rw [← HNL.out]; exact hJn
          have hkL : L[J]? = some L[J] := List.getElem?_eq_getElem hkl
          have hkr : k < L.reverse.length := by rw [List.length_reverse, ← HNL.out]; exact hkn
          have hfill : L.reverse.take (k + 1) = L.reverse.take k ++ [L[J]] := by
            rw [List.take_succ_eq_append_getElem hkr]
            congr 2
            rw [List.getElem_reverse]
            congr 1
            rw [← HNL.out, hJ]
          have hol : (L.reverse.take k).length ≤ 1000000 := by rw [List.length_take]; omega
          obtain ⟨bk, ok, rfl, hbk, hck⟩ := hK (by omega)
          have hSw := hS.trans hSr
          have c1 := (hSw.1 _ _ hbk).trans (hck J _ hkL 0 (by omega))
          have c2 := (hSw.1 _ _ hbk).trans (hck J _ hkL 1 (by omega))
          have c3 := (hSw.1 _ _ hbk).trans (hck J _ hkL 2 (by omega))
          have hbw2 := hSw.2.2.1 _ hbk
          have HF := Lib.hid hfill
          have HOL := Lib.hid hol
          have HJ := Lib.hid hJ
          have u1 : IntKind.i64.wrap ((J : Int) - 1) = (J : Int) - 1 := IntWalk.i64_in _ (by omega)
          have hbz : bs ≤ wr.heap.size := Nat.le_trans hbs2 hSr.below.size
          rw [hJI]
          generalize L[J] = K at *
          clear hfill hkL hck hK hol hkr hkl hJ hJI
          obtain ⟨x, y, o⟩ := K
          simp only [knL, List.getD_cons_succ, List.getD_cons_zero, Nat.add_zero] at c1 c2 c3
          go_wp2_with (at_builtin; refine wpList_append_g rfl _ _ 23 39 rfl (by omega) knL_len knL_one 24 Try.underlying23 infoKn bs _ _ rfl (OwnG.alloc hOk _) _ _ 1 [⟨x, y, o⟩] rfl (kn_one wr _ rfl _ ⟨x, y, o⟩) ?_ ?_ ?_ ?_; (focus (have := HOL.out; simp only [List.length_cons, List.length_nil]; omega)); (focus (have := HOL.out; simp only [List.length_cons, List.length_nil, maxLen]; omega)); (focus (simp; omega)); intro v7 w7 hO7 hg7 hb7)
          go_roundw
          case rel => exact ⟨k + 1, by omega, by have := HJ.out; congr 1; omega, by rw [HF.out]; exact hO7, since_grown (hSr.alloc _) hg7 (fun q hq => Nat.le_trans hbs1 (hb7 q hq).1)⟩
          case measure => simp [intOf]
        · obtain rfl : n = k := by omega
          have hd : decide ((0 : Int) ≤ (n : Int) - 1 - (n : Int)) = false := decide_eq_false (by omega)
          have hd2 : ¬ (0 : Int) ≤ (n : Int) - 1 - (n : Int) := by omega
          have e : L.reverse.take n = L.reverse := List.take_of_length_le (by rw [List.length_reverse, ← HNL.out]; exact Nat.le_refl _)
          rw [e] at hOk
          have hOO := hO.since hSr
          have hz8 : w.heap.size ≤ wr.heap.size := (hS.trans hSr).below.size
          have hlow : w.heap.size ≤ bs := Nat.le_trans hS.below.size hbs1
          obtain ⟨A7, c7, rfl, _, _⟩ := OwnG.rd (by omega) knL_len hOk
          rw [List.length_reverse] at hOk ⊢
          go_wp2_with (at_builtin; refine wpList_append_hd rfl _ _ rfl w.heap.size _ LJ rfl hOO _ 1 A7 L.length c7 L.reverse rfl _ rfl (OwnG.lower hOk hlow) HLT.out hz8 ?_; intro v8 w8 hO8 hg8 hb8; have hS8 : Since w w8 := (since_grown ((hS.trans hSr).alloc _) hg8 (fun q hq => (hb8 q hq).1)))
          go_roundw
          case rel => exact ⟨j + 1, by omega, by go_num, by rw [HTK.out]; exact hO8, hS8⟩
          case measure => simp [intOf]; omega
    · obtain rfl : N = j := by omega
      have e : LL.take N = LL := by rw [HN.out]; exact List.take_length
      rw [e] at hO
      obtain ⟨A', c', rfl, hc', hr⟩ := hO.rd
      rw [List.length_map, ← HN.out]
      go_wp2_with fail
      go_ret
      exact ⟨A', c', rfl, hr, hS⟩
/-- How many knots an outline has. -/
def KnotsOut (w : World) (LL : List (List Kt)) (e : Ending) (w' : World) : Prop := e = .returned (.int .i64 ((sumL LL : Nat) : Int)) ∧ Since w w'

set_option maxRecDepth 100000 in
set_option maxHeartbeats 8000000 in
theorem ou_knots (A : Option Addr) (c : Nat) (LL : List (List Kt)) (w : World) (h : RdOL w w.heap.size A LL) (hn : LL.length ≤ 600) (hm : ∀ L, L ∈ LL → L.length ≤ 5000) :
    Calls Try.prog 25 #[.slice A LL.length c] w (KnotsOut w LL) := by
  obtain ⟨N, hN⟩ : ∃ N, N = LL.length := ⟨_, rfl⟩
  rw [← hN] at hn ⊢
  have HN := Lib.hid hN
  have HM := Lib.hid hm
  clear hN hm
  go_enter Try.func25, Try.ntmps25
  go_wp2_with fail
  go_loopw [3, 8] (fun v y wr => ∃ (j : Nat), j ≤ N ∧ y = .int .i64 (j : Int) ∧ v = .int .i64 ((sumL (LL.take j) : Nat) : Int) ∧ sumL (LL.take j) ≤ 5000 * j ∧ Since w wr) (fun _ y _ => N - (intOf y).toNat)
  case atStart => exact ⟨0, by omega, rfl, rfl, by simp [sumL], Since.refl _⟩
  case round =>
    obtain ⟨j, hj, rfl, rfl, hs, hS⟩ := hrel
    by_cases hjn : j < N
    · have hjn' : (j : Int) < N := by omega
      have hL : LL[j]? = some (LL[j]'(by rw [← HN.out]; exact hjn)) := List.getElem?_eq_getElem _
      have hml := HM.out _ (List.mem_of_getElem? hL)
      generalize (LL[j]'(by rw [← HN.out]; exact hjn)) = L at *
      obtain ⟨b, o, A', c', rfl, hb, hcell, hK⟩ := h.row hL
      have hst := sum_take hL
      have HST := Lib.hid hst
      have c1 := (hS.1 _ _ hb).trans hcell
      have hbw := hS.2.2.1 _ hb
      generalize hll : L.length = n at *
      generalize sumL (LL.take j) = S at *
      have u1 : IntKind.i64.wrap ((S : Int) + (n : Int)) = (S : Int) + (n : Int) := IntWalk.i64_in _ (by omega)
      clear hL hst h hcell hK
      go_wp2_with fail
      go_roundw
      case rel => exact ⟨j + 1, by omega, by go_num, by rw [HST.out]; go_num, by rw [HST.out]; omega, hS⟩
      case measure => simp [intOf]; omega
    · obtain rfl : N = j := by omega
      have e : LL.take N = LL := by rw [HN.out]; exact List.take_length
      rw [e]
      go_wp2_with fail
      go_ret
      exact ⟨rfl, hS⟩

set_option maxRecDepth 100000 in
set_option maxHeartbeats 8000000 in
theorem rf_knots (A : Option Addr) (c : Nat) (LL : List (List Kt)) (w : World) (h : RdOL w w.heap.size A LL) (hn : LL.length ≤ 600) (hm : ∀ L, L ∈ LL → L.length ≤ 5000) :
    Calls Try.prog 26 #[.slice A LL.length c] w (KnotsOut w LL) := by
  obtain ⟨N, hN⟩ : ∃ N, N = LL.length := ⟨_, rfl⟩
  rw [← hN] at hn ⊢
  have HN := Lib.hid hN
  have HM := Lib.hid hm
  clear hN hm
  go_enter Try.func26, Try.ntmps26
  go_wp2_with fail
  go_loopw [3, 8] (fun v y wr => ∃ (j : Nat), j ≤ N ∧ y = .int .i64 (j : Int) ∧ v = .int .i64 ((sumL (LL.take j) : Nat) : Int) ∧ sumL (LL.take j) ≤ 5000 * j ∧ Since w wr) (fun _ y _ => N - (intOf y).toNat)
  case atStart => exact ⟨0, by omega, rfl, rfl, by simp [sumL], Since.refl _⟩
  case round =>
    obtain ⟨j, hj, rfl, rfl, hs, hS⟩ := hrel
    by_cases hjn : j < N
    · have hjn' : (j : Int) < N := by omega
      have hL : LL[j]? = some (LL[j]'(by rw [← HN.out]; exact hjn)) := List.getElem?_eq_getElem _
      have hml := HM.out _ (List.mem_of_getElem? hL)
      generalize (LL[j]'(by rw [← HN.out]; exact hjn)) = L at *
      obtain ⟨b, o, A', c', rfl, hb, hcell, hK⟩ := h.row hL
      have hst := sum_take hL
      have HST := Lib.hid hst
      have c1 := (hS.1 _ _ hb).trans hcell
      have hbw := hS.2.2.1 _ hb
      generalize hll : L.length = n at *
      generalize sumL (LL.take j) = S at *
      have u1 : IntKind.i64.wrap ((S : Int) + (n : Int)) = (S : Int) + (n : Int) := IntWalk.i64_in _ (by omega)
      clear hL hst h hcell hK
      go_wp2_with fail
      go_roundw
      case rel => exact ⟨j + 1, by omega, by go_num, by rw [HST.out]; go_num, by rw [HST.out]; omega, hS⟩
      case measure => simp [intOf]; omega
    · obtain rfl : N = j := by omega
      have e : LL.take N = LL := by rw [HN.out]; exact List.take_length
      rw [e]
      go_wp2_with fail
      go_ret
      exact ⟨rfl, hS⟩

end Go.Proofs.Ytdbenpncnkfliaa

/-
  'copy' of knots into an own row; slices.Reverse of an own row of knots.
-/
namespace Go.Proofs.Ytdbenpncnkfliaa
open Go.RowKit Go.ChangeShapes Go.WideShapes Go.Deep
set_option linter.unusedVariables false

section
variable {P : Program}
theorem run_copy_rowk (w : World) (dT sT ty elem : TypeId) (g o dLen dCap : Nat) (a : Addr) (sLen sCap k : Nat) (cur : Array Value) (t : TypeId) (cs : List Value) (i : TypeInfo)
    (hu : P.underlying dT = some (.slice elem)) (hq : P.info? elem = some i) (hi : i.size = k)
    (hg : w.heap[g]? = some (.cells cur t (0, 0))) (hn : cs.length = Nat.min sLen dLen * k)
    (hsrc : ∀ j v, cs[j]? = some v → w.cell? (a.add j) = some v) (hfit : o + cs.length ≤ cur.size) (h1 : ∀ v ∈ cs, v.oneCell' = true) :
    (Builtin.copy_ #[dT, sT] ty #[.slice (some ⟨g, o, none⟩) dLen dCap, .slice (some a) sLen sCap]).run P w =
      .ok (goInt (Nat.min sLen dLen)) (w.setRow g (cur.toList.take o ++ cs ++ cur.toList.drop (o + cs.length)).toArray) := by
  have hl := run_loadCells_list (P := P) w a cs hsrc
  have hst := run_storeCells_at P g o t cs 0 cur w hg (by simpa using hfit) h1
  simp [Builtin.copy_, run_underlying hu, Builtin.lenOf, Builtin.firstCells, sizeOf, typeInfo, hq, hi, ← hn, hl, hst]
end
theorem since_setRow {w0 w : World} {q : Nat} (h : Since w0 w) (hq : w0.heap.size ≤ q) (cs : Array Value) : Since w0 (w.setRow q cs) := since_of (below_setRow h.below hq cs)
theorem keep_setRow (w : World) (q : Nat) (cs : Array Value) : KeepBut q w (w.setRow q cs) := ⟨by simp, fun b _ hb => setRow_other w q b cs hb⟩
theorem wpList_copy_kn {w : World} {ops : Array Oper} {rest : List Oper} {o : Oper} {a : Act} {Q : Exit → Act → World → Prop} (hgd : o.guard = none) (d s : Operand)
    (ho : o.op = .call { callee := .builtin .copy, args := #[d, s], argTypes := #[23, 23] }) (base q n c : Nat) (A : Option Addr) (L0 L : List Kt)
    (hd : a.eval d = .slice (some ⟨q, 0, none⟩) n n) (hs : a.eval s = .slice A n c) (hown : OwnK w base (.slice (some ⟨q, 0, none⟩) n n) L0) (hL0 : L0.length = n) (hL : L.length = n) (B : Nat) (hr : RdKl w B A L) (hn0 : 0 < n)
    (h : ∀ w', OwnK w' base (.slice (some ⟨q, 0, none⟩) n n) L → KeepBut q w w' → (∀ w0, Since w0 w → w0.heap.size ≤ q → Since w0 w') → wpList Try.prog ops Q rest (a.put o.dst (goInt n)) w') :
    wpList Try.prog ops Q (o :: rest) a w := by
  obtain ⟨i, z, hi, hz, hsz, hby, _⟩ := infoKn
  obtain ⟨b, oo, rfl, hb, hc⟩ := hr (by omega)
  rcases hown.2 with ⟨h0, _⟩ | ⟨g, cap, cur, h0, hbg, hh, hnc, hcm, hcs, htk⟩
  · cases h0
  · injection h0 with h0 h0a h0b
    injection h0 with h0
    injection h0 with h0 _
    subst h0
    subst h0b
    have hlen : (cellsG knL L).length = n * 3 := by rw [cellsG_len knL_len, hL]
    have hsrc : ∀ j v, (cellsG knL L)[j]? = some v → w.cell? ((⟨b, oo, none⟩ : Addr).add j) = some v := fun j v hj => by
      have hjl : j < n * 3 := by
        rcases Nat.lt_or_ge j (n * 3) with h | h
        · exact h
        · rw [List.getElem?_eq_none (by omega)] at hj; cases hj
      have hjn : j / 3 < L.length := by omega
      have h1 := hc (j / 3) _ (List.getElem?_eq_getElem hjn) (j % 3) (Nat.mod_lt _ (by omega))
      have h2 := cellsG_get knL_len L (j / 3) _ (List.getElem?_eq_getElem hjn) (j % 3) (Nat.mod_lt _ (by omega))
      rw [show j / 3 * 3 + j % 3 = j by omega] at h2
      rw [h2] at hj
      rw [add_plain]
      rw [show oo + j / 3 * 3 + j % 3 = oo + j by omega] at h1
      rw [h1, List.getD_eq_getElem?_getD, hj]
      rfl
    have hone : ∀ v ∈ cellsG knL L, v.oneCell' = true := by
      intro u hu
      unfold cellsG at hu
      rw [List.mem_flatMap] at hu
      obtain ⟨x, _, hx⟩ := hu
      exact knL_one x u hx
    have hrun := run_copy_rowk (P := Try.prog) w 23 23 o.type 39 q 0 n n ⟨b, oo, none⟩ n c 3 cur 39 (cellsG knL L) i Try.underlying23 hi hsz hh (by rw [hlen]; simp) hsrc (by rw [hlen, hcs]; omega) hone
    refine wpList_plain hgd fun K hK => ?_
    have hmin : Nat.min n n = n := Nat.min_self n
    rw [hmin] at hrun
    have hrow : List.take 0 cur.toList ++ cellsG knL L ++ List.drop (0 + (cellsG knL L).length) cur.toList = cellsG knL L := by
      rw [List.take_zero, List.nil_append, Nat.zero_add, hlen, List.drop_eq_nil_of_le (by rw [Array.length_toList, hcs]; omega), List.append_nil]
    rw [hrow] at hrun
    unfold Oper.wp execOp
    simp only [ho, resolve, invoke, builtin, Sem.run_bind, Sem.run_pure, Result.andThen_ok, List.map_toArray, List.map_cons, List.map_nil, hd, hs, hrun]
    refine hK _ _ (h _ ⟨cellsG_len knL_len L, .inr ⟨q, n, (cellsG knL L).toArray, by rw [hL], hbg, setRow_heap w q cur _ _ _ hh, by omega, hcm, by simp [hlen], ?_⟩⟩ (keep_setRow w q _) (fun w0 hS hq => since_setRow hS hq _))
    rw [hL, List.take_of_length_le (by simp [hlen])]
theorem wpList_copy_zero {w : World} {ops : Array Oper} {rest : List Oper} {o : Oper} {a : Act} {Q : Exit → Act → World → Prop} (hgd : o.guard = none) (d s : Operand)
    (ho : o.op = .call { callee := .builtin .copy, args := #[d, s], argTypes := #[23, 23] }) (base q c : Nat) (A : Option Addr) (L0 : List Kt)
    (hd : a.eval d = .slice (some ⟨q, 0, none⟩) 0 0) (hs : a.eval s = .slice A 0 c) (hown : OwnK w base (.slice (some ⟨q, 0, none⟩) 0 0) L0)
    (h : wpList Try.prog ops Q rest (a.put o.dst (goInt 0)) w) : wpList Try.prog ops Q (o :: rest) a w := by
  obtain ⟨i, z, hi, hz, hsz, hby, _⟩ := infoKn
  have hrun : (Builtin.copy_ #[23, 23] o.type #[.slice (some ⟨q, 0, none⟩) 0 0, .slice A 0 c]).run Try.prog w = .ok (goInt 0) w := by
    rcases A with _ | ad
    · simp [Builtin.copy_, run_underlying Try.underlying23, Builtin.lenOf, Builtin.firstCells, sizeOf, typeInfo, hi, storeCells]
    · rcases hown.2 with ⟨h0, _⟩ | ⟨g, cap, cur, h0, hbg, hh, _⟩
      · cases h0
      · injection h0 with h0 h0a h0b
        injection h0 with h0
        injection h0 with h0 _
        subst h0
        have hr := run_copy_rowk (P := Try.prog) w 23 23 o.type 39 q 0 0 0 ad 0 c 3 cur 39 [] i Try.underlying23 hi hsz hh (by simp) (fun j v hj => by simp at hj) (by simp) (fun v hv => by cases hv)
        have e : (List.take 0 cur.toList ++ [] ++ List.drop (0 + ([] : List Value).length) cur.toList).toArray = cur := by simp
        rw [e, setRow_self w q cur _ _ hh] at hr
        exact hr
  refine wpList_plain hgd fun K hK => ?_
  unfold Oper.wp execOp
  simp only [ho, resolve, invoke, builtin, Sem.run_bind, Sem.run_pure, Result.andThen_ok, List.map_toArray, List.map_cons, List.map_nil, hd, hs, hrun]
  exact hK _ _ h
end Go.Proofs.Ytdbenpncnkfliaa

/-
  slices.Reverse of an own row of knots, walked.
-/
namespace Go.Proofs.Ytdbenpncnkfliaa
open Go.RowKit Go.ChangeShapes Go.WideShapes Go.Deep
set_option linter.unusedVariables false

theorem OwnG.drew {α : Type} {enc : α → List Value} {t : TypeId} {k base : Nat} {w : World} {v : Value} {L : List α} (h : OwnG t k enc w base v L) : OwnG t k enc w.drew base v L := h
theorem KeepBut.drew {q : Nat} {a b : World} (h : KeepBut q a b) : KeepBut q a b.drew := h
def K00 : Kt := ⟨0, 0, false⟩
/-- The first k and the last k exchanged. -/
def revk (L : List Kt) (k : Nat) : List Kt := (List.range L.length).map fun t => if t < k ∨ L.length - k ≤ t then L.getD (L.length - 1 - t) K00 else L.getD t K00
theorem revk_len (L : List Kt) (k : Nat) : (revk L k).length = L.length := by simp [revk]
theorem revk_get {L : List Kt} {k t : Nat} (ht : t < L.length) : (revk L k)[t]? = some (if t < k ∨ L.length - k ≤ t then L.getD (L.length - 1 - t) K00 else L.getD t K00) := by
  unfold revk
  rw [List.getElem?_map, List.getElem?_range ht]
  rfl
theorem revk_zero (L : List Kt) : revk L 0 = L := by
  apply List.ext_getElem?
  intro t
  by_cases ht : t < L.length
  · rw [revk_get ht, if_neg (by omega), List.getD_eq_getElem?_getD, List.getElem?_eq_getElem ht]
    rfl
  · rw [List.getElem?_eq_none (by rw [revk_len]; omega), List.getElem?_eq_none (by omega)]
theorem revk_end {L : List Kt} {k : Nat} (hk : L.length ≤ 2 * k + 1) : revk L k = L.reverse := by
  apply List.ext_getElem?
  intro t
  by_cases ht : t < L.length
  · rw [revk_get ht, List.getElem?_reverse ht]
    have e : L[L.length - 1 - t]? = some L[L.length - 1 - t] := List.getElem?_eq_getElem (by omega)
    by_cases hc : t < k ∨ L.length - k ≤ t
    · rw [if_pos hc, List.getD_eq_getElem?_getD, e]; rfl
    · have e2 : L.length - 1 - t = t := by omega
      rw [if_neg hc, List.getD_eq_getElem?_getD, e2, List.getElem?_eq_getElem ht]; rfl
  · rw [List.getElem?_eq_none (by rw [revk_len]; omega), List.getElem?_eq_none (by simp; omega)]
theorem revk_step {L : List Kt} {k J : Nat} (hJ : J = L.length - 1 - k) (hkJ : k < J) : ((revk L k).set k (L.getD J K00)).set J (L.getD k K00) = revk L (k + 1) := by
  apply List.ext_getElem?
  intro t
  have hl := revk_len L k
  by_cases ht : t < L.length
  · rw [revk_get ht]
    by_cases e1 : t = J
    · subst e1
      rw [List.getElem?_set_self (by rw [List.length_set, hl]; omega), if_pos (by omega), show L.length - 1 - t = k by omega]
    · rw [List.getElem?_set_ne (fun e => e1 e.symm)]
      by_cases e2 : t = k
      · subst e2
        rw [List.getElem?_set_self (by rw [hl]; omega), if_pos (by omega), show L.length - 1 - t = J by omega]
      · rw [List.getElem?_set_ne (fun e => e2 e.symm), revk_get ht]
        by_cases hc : t < k ∨ L.length - k ≤ t
        · rw [if_pos hc, if_pos (by omega)]
        · rw [if_neg hc, if_neg (by omega)]
  · rw [List.getElem?_eq_none (by rw [List.length_set, List.length_set, hl]; omega), List.getElem?_eq_none (by rw [revk_len]; omega)]
def RevOut (w : World) (base q n : Nat) (L : List Kt) (e : Ending) (w' : World) : Prop := (∃ v, e = .returned v) ∧ OwnK w' base (.slice (some ⟨q, 0, none⟩) n n) L.reverse ∧ KeepBut q w w' ∧ ∀ w0, Since w0 w → w0.heap.size ≤ q → Since w0 w'
set_option maxRecDepth 1000000 in
set_option maxHeartbeats 16000000 in
theorem ou_reverse (base q n : Nat) (L : List Kt) (w : World) (h : OwnK w base (.slice (some ⟨q, 0, none⟩) n n) L) (hL : L.length = n) (hn : n ≤ 1000000) :
    Calls Try.prog 52 #[.slice (some ⟨q, 0, none⟩) n n] w (RevOut w base q n L) := by
  have h0 : OwnK w base (.slice (some ⟨q, 0, none⟩) n n) (revk L 0) := by rw [revk_zero]; exact h
  have HL := Lib.hid hL
  clear h hL
  have u0 : IntKind.i64.wrap ((n : Int) - 1) = (n : Int) - 1 := IntWalk.i64_in _ (by omega)
  go_enter Try.func52, Try.ntmps52
  go_wp2_with fail
  go_loopw [2, 3] (fun x y wr => ∃ k : Nat, 2 * k ≤ n + 1 ∧ x = .int .i64 (k : Int) ∧ y = .int .i64 ((n : Int) - 1 - (k : Int)) ∧ OwnK wr base (.slice (some ⟨q, 0, none⟩) n n) (revk L k) ∧ KeepBut q w wr ∧ Hid (∀ w0, Since w0 w → w0.heap.size ≤ q → Since w0 wr)) (fun x _ _ => n - (intOf x).toNat)
  case atStart => exact ⟨0, by omega, rfl, by simp, h0, KeepBut.refl _ _, Lib.hid (fun w0 h _ => h)⟩
  case round =>
    obtain ⟨k, hk, rfl, rfl, hO, hK, HS⟩ := hrel
    by_cases hkn : 2 * k + 1 < n
    · obtain ⟨J, hJ⟩ : ∃ J, J = n - 1 - k := ⟨_, rfl⟩
      have hJI : (n : Int) - 1 - (k : Int) = (J : Int) := by omega
      have hkJ : k < J := by omega
      have hkJ' : (k : Int) < (J : Int) := by omega
      have hJn : J < n := by omega
      have hJn' : (J : Int) < (n : Int) := by omega
      have hkn' : (k : Int) < (n : Int) := by omega
      rw [hJI]
      have u1 : IntKind.i64.wrap ((k : Int) + 1) = (k : Int) + 1 := IntWalk.i64_in _ (by omega)
      have u2 : IntKind.i64.wrap ((J : Int) - 1) = (J : Int) - 1 := IntWalk.i64_in _ (by omega)
      have hstep := revk_step (L := L) (k := k) (J := J) (by rw [HL.out]; exact hJ) hkJ
      have HST := Lib.hid hstep
      have hlk : (revk L k)[k]? = some (L.getD k K00) := by rw [revk_get (by rw [HL.out]; omega), if_neg (by rw [HL.out]; omega)]
      have hlJ : (revk L k)[J]? = some (L.getD J K00) := by rw [revk_get (by rw [HL.out]; omega), if_neg (by rw [HL.out]; omega)]
      have hrl : (revk L k).length = n := by rw [revk_len, HL.out]
      obtain ⟨A2, c2, e2, _, hr2⟩ := OwnG.rd (by omega) knL_len hO
      injection e2 with e2 e2a e2b
      subst e2
      clear e2a e2b
      obtain ⟨b3, o3, e4, hb3, hc3⟩ := hr2 (by omega)
      injection e4 with e4
      injection e4 with e5 e6 e7
      subst e5 e6
      clear e7
      have p := hc3 k _ hlk
      have r := hc3 J _ hlJ
      have p1 := p 0 (by omega); have p2 := p 1 (by omega); have p3 := p 2 (by omega)
      have r1 := r 0 (by omega); have r2 := r 1 (by omega); have r3 := r 2 (by omega)
      generalize L.getD k K00 = a at *
      generalize L.getD J K00 = z at *
      obtain ⟨ax, ay, ao⟩ := a
      obtain ⟨zx, zy, zo⟩ := z
      simp only [knL, List.getD_cons_succ, List.getD_cons_zero, Nat.add_zero, Nat.zero_add] at p1 p2 p3 r1 r2 r3
      have hor : wr.ownsRow base 39 3 (.slice (some ⟨q, 0, none⟩) n n) n (cellsG knL (revk L k)) := by
        have hx := hO
        unfold OwnK OwnG at hx
        rw [hrl] at hx
        exact hx
      have f1 := World.ownsRow.frozenAt hor (k * 3); have f2 := World.ownsRow.frozenAt hor (k * 3 + 1); have f3 := World.ownsRow.frozenAt hor (k * 3 + 2)
      have g1 := World.ownsRow.frozenAt hor (J * 3); have g2 := World.ownsRow.frozenAt hor (J * 3 + 1); have g3 := World.ownsRow.frozenAt hor (J * 3 + 2)
      have n1 : ¬ k * 3 = J * 3 := by omega
      have n2 : ¬ k * 3 = J * 3 + 1 := by omega
      have n3 : ¬ k * 3 = J * 3 + 2 := by omega
      have n4 : ¬ k * 3 + 1 = J * 3 := by omega
      have n5 : ¬ k * 3 + 1 = J * 3 + 1 := by omega
      have n6 : ¬ k * 3 + 1 = J * 3 + 2 := by omega
      have n7 : ¬ k * 3 + 2 = J * 3 := by omega
      have n8 : ¬ k * 3 + 2 = J * 3 + 1 := by omega
      have n9 : ¬ k * 3 + 2 = J * 3 + 2 := by omega
      have HO := Lib.hid hO
      have HRL := Lib.hid hrl
      clear hor p r hc3 hr2 hlk hlJ hrl hstep hO hJI
      have HJ := Lib.hid hJ
      clear hJ
      go_upto_region 3 with fail
      go_region
      go_wp2_with fail
      go_roundw
      case rel =>
        refine ⟨k + 1, by omega, by go_num, by have := HJ.out; congr 1; omega, ?_, KeepBut.drew ((((((hK.set _ _).set _ _).set _ _).set _ _).set _ _).set _ _), Lib.hid (fun w0 h1 h2 => Since.drew (((((((HS.out w0 h1 h2).setCell h2 _).setCell h2 _).setCell h2 _).setCell h2 _).setCell h2 _).setCell h2 _))⟩
        rw [← HST.out]
        refine OwnG.drew ?_
        exact OwnK.put (OwnK.put HO.out k _ _ _ (by rw [HRL.out]; omega)) J _ _ _ (by rw [List.length_set, HRL.out]; omega)
      case measure => simp [intOf]; omega
    · have hd : ¬ (k : Int) < (n : Int) - 1 - (k : Int) := by omega
      have hd2 : decide ((k : Int) < (n : Int) - 1 - (k : Int)) = false := by simp; omega
      have he := revk_end (L := L) (k := k) (by rw [HL.out]; omega)
      rw [he] at hO
      go_wp2_with fail
      refine bodyPost_ret (v := .tuple #[]) (by simp [results, Try.results52, go_sem]) rfl ?_
      exact ⟨⟨_, rfl⟩, hO, hK, HS.out⟩

/-- What 'Flip' answers. -/
def FlipOut (w : World) (LL : List (List Kt)) (e : Ending) (w' : World) : Prop :=
  ∃ v base, e = .returned v ∧ w.heap.size ≤ base ∧ OwnO w' base v (LL.map List.reverse) ∧ Since w w'
def KF0 : Kt := ⟨0, 0, false⟩
set_option maxRecDepth 1000000 in
set_option maxHeartbeats 32000000 in
theorem ou_flip (A : Option Addr) (c : Nat) (LL : List (List Kt)) (w : World) (h : RdOL w w.heap.size A LL) (hn : LL.length ≤ 1000000) (hm : ∀ L, L ∈ LL → L.length ≤ 1000000) :
    Calls Try.prog 23 #[.slice A LL.length c] w (FlipOut w LL) := by
  obtain ⟨N, hN⟩ : ∃ N, N = LL.length := ⟨_, rfl⟩
  rw [← hN] at hn ⊢
  have HN := Lib.hid hN
  have HM := Lib.hid hm
  clear hN hm
  have hNI : (0 : Int) ≤ (N : Int) := by omega
  go_enter Try.func23, Try.ntmps23
  go_wp2_with (at_make; refine wpList_make_g rfl _ _ 29 23 rfl (by omega) hdL_len 24 ⟨none, 0, 0⟩ Try.underlying29 infoCt2 N rfl rfl (by omega) (by simp only [maxLen]; omega) w.heap.size (Nat.le_refl _) ?_; intro w1 hO1 hg1)
  have hS1 : Since w w1 := since_grown (Since.refl w) hg1 (fun q hq => by cases hq)
  have hb1 := (hO1.lt (g := w.heap.size) rfl).2
  obtain ⟨hb0, hbe⟩ : ∃ hb0, hb0 = w.heap.size := ⟨_, rfl⟩
  have hbw : w.heap.size ≤ hb0 := by omega
  rw [← hbe] at hb1 ⊢
  have hO1 : OwnG 23 1 hdL w1 w.heap.size (.slice (some ⟨hb0, 0, none⟩) N N) (List.replicate N ⟨none, 0, 0⟩) := by rw [hbe]; exact hO1
  clear hbe hg1
  go_loopw [11] (fun y wr => ∃ (j : Nat) (hs : List Hd), j ≤ N ∧ y = .int .i64 (j : Int) ∧ hs.length = N ∧ OwnG 23 1 hdL wr w.heap.size (.slice (some ⟨hb0, 0, none⟩) N N) hs ∧ Since w wr ∧ Hid (∀ (i : Nat) x L, i < j → hs[i]? = some x → LL[i]? = some L → OwnK wr w.heap.size (.slice x.A x.n x.c) L.reverse)) (fun y _ => N - (intOf y).toNat)
  case atStart => exact ⟨0, _, by omega, rfl, by simp, hO1, hS1, Lib.hid (fun i x L hi => absurd hi (by omega))⟩
  case round =>
    obtain ⟨j, hs, hj, rfl, hsl, hO, hS, HK⟩ := hrel
    by_cases hjn : j < N
    · have hjn' : (j : Int) < N := by omega
      have hjL : j < LL.length := by rw [← HN.out]; exact hjn
      have hL : LL[j]? = some LL[j] := List.getElem?_eq_getElem hjL
      have hml := HM.out _ (List.mem_of_getElem? hL)
      have HLJ := Lib.hid hL
      generalize LL[j] = L at *
      obtain ⟨b, o, A', c', rfl, hb, hcell, hK⟩ := h.row hL
      have c1 := (hS.1 _ _ hb).trans hcell
      have hbw1 := hS.2.2.1 _ hb
      have hwz := hS.below.size
      have hbz := (hO.lt (g := hb0) rfl).2
      obtain ⟨n, hnl⟩ : ∃ n, n = L.length := ⟨_, rfl⟩
      rw [← hnl] at hml c1
      have HNL := Lib.hid hnl
      clear hL h hcell hjL hnl
      have hOr : wr.ownsRow w.heap.size 23 1 (.slice (some ⟨hb0, 0, none⟩) N N) N (cellsG hdL hs) := by
        have hx := hO
        unfold OwnG at hx
        rw [hsl] at hx
        exact hx
      have hfz := World.ownsRow.frozenAt hOr j
      clear hOr
      have hcj : wr.cell? ⟨hb0, j, none⟩ = some (.slice (hs.getD j ⟨none, 0, 0⟩).A (hs.getD j ⟨none, 0, 0⟩).n (hs.getD j ⟨none, 0, 0⟩).c) := by
        have hx : hs[j]? = some hs[j] := List.getElem?_eq_getElem (by omega)
        obtain ⟨A2, c2, e, _, hr2⟩ := hO.rd (by omega) hdL_len
        injection e with e1 e2 e3
        subst e1
        obtain ⟨b3, o3, e4, _, hc3⟩ := hr2 (by omega)
        injection e4 with e4
        injection e4 with e5 e6
        subst e5 e6
        have := hc3 j _ hx 0 (by omega)
        rw [Nat.zero_add, Nat.mul_one, Nat.add_zero] at this
        have hgd : hs.getD j ⟨none, 0, 0⟩ = hs[j] := by rw [List.getD_eq_getElem?_getD, hx]; rfl
        rw [this, hgd]
        rfl
      generalize hs.getD j ⟨none, 0, 0⟩ = h0 at *
      go_upto_region 6 with (at_make; refine wpList_make_g rfl _ _ 23 39 rfl (by omega) knL_len 24 KF0 Try.underlying23 infoKn2 n rfl rfl (by omega) (by simp only [maxLen]; omega) w.heap.size hwz ?_; intro w4 hO4 hg4; have hc4 := cell_grown hcj hbz hg4 (by simp); have hf4 : w4.frozen? ⟨hb0, j, none⟩ = false := (by rw [← hfz]; exact World.frozen?_of_block (hg4.block hb0 hbz (by simp))); have hz4 := Nat.lt_of_lt_of_le hbz hg4.size)
      obtain ⟨q, hq0⟩ : ∃ q, q = wr.heap.size := ⟨_, rfl⟩
      have hrows : Hid (∀ (i : Nat) x M, i < j → hs[i]? = some x → LL[i]? = some M → OwnK w4 w.heap.size (.slice x.A x.n x.c) M.reverse ∧ (Value.slice x.A x.n x.c).ownBlock ≠ some q) := Lib.hid (fun i x M h1 h2 h3 => by
        have hk := HK.out i x M h1 h2 h3
        exact ⟨OwnG.grown hk hg4 (fun q hq e => by cases e), fun e => by have := (hk.lt e).2; omega⟩)
      have hOh := OwnG.grown hO hg4 (fun q hq e => by cases e)
      have hS4 : Since w w4 := since_grown hS hg4 (fun q hq => by cases hq)
      have hbq : hb0 ≠ q := by omega
      have hqw : w.heap.size ≤ q := by omega
      have hq4 : q < w4.heap.size := by rw [hq0]; exact (hO4.lt rfl).2
      rw [← hq0] at hO4 ⊢
      clear hq0 hO hS HK hcj hfz hg4 c1 hbw1 hwz hbz
      have hne : 23 ≠ 39 := by decide
      go_upto_region 6 with fail
      refine wp_named fun w5 hw5 => ?_
      have hkb : KeepBut hb0 w4 w5 := by subst hw5; exact (KeepBut.refl hb0 w4).set j _
      have hc5 : w5.cell? ⟨hb0, j, none⟩ = some (.slice (some ⟨q, 0, none⟩) n n) := by subst hw5; rw [cell_set, if_pos ⟨rfl, rfl⟩, hc4]; rfl
      have hOw4 := hOh
      have hOh : OwnG 23 1 hdL w5 w.heap.size (.slice (some ⟨hb0, 0, none⟩) N N) (hs.set j ⟨some ⟨q, 0, none⟩, n, n⟩) := by subst hw5; exact OwnH.put hOh j (some ⟨q, 0, none⟩) n n (by omega)
      have hO5 := OwnG.but hO4 hkb (fun e => by injection e with e; exact hbq e.symm)
      have hS5 : Since w w5 := by subst hw5; exact hS4.setCell hbw _
      have hz5 := hkb.1
      have hb5 : hb0 < w5.heap.size := by omega
      have HR5 : Hid (∀ (i : Nat) x M, i < j → hs[i]? = some x → LL[i]? = some M → OwnK w5 w.heap.size (.slice x.A x.n x.c) M.reverse ∧ (Value.slice x.A x.n x.c).ownBlock ≠ some q) := Lib.hid (fun i x M h1 h2 h3 => by
        obtain ⟨hk, hx⟩ := hrows.out i x M h1 h2 h3
        refine ⟨OwnG.but hk hkb (fun e => ?_), hx⟩
        exact own_apart hOw4 hk hne rfl e)
      clear hkb hc4 hf4 hz4 hOw4 hO4 hrows hS4 hq4 hw5
      have hK5 := (hK.since (Nat.le_refl _) hS5)
      have hlr : (List.replicate n KF0).length = n := by simp
      go_upto_region 6 with fail
      go_cut [] (fun wx => OwnK wx w.heap.size (.slice (some ⟨q, 0, none⟩) n n) L ∧ KeepBut q w5 wx ∧ Since w wx)
      case first =>
        by_cases hn0 : n = 0
        · have hLn : L = [] := List.eq_nil_of_length_eq_zero (by rw [← HNL.out]; exact hn0)
          subst hn0
          subst hLn
          go_wp2_with (refine wpList_copy_zero rfl _ _ rfl w.heap.size q c' A' _ rfl rfl hO5 ?_)
          go_meet
          exact ⟨by simpa using hO5, KeepBut.refl _ _, hS5⟩
        · go_wp2_with (refine wpList_copy_kn rfl _ _ rfl w.heap.size q n c' A' _ L rfl rfl hO5 hlr HNL.out.symm _ hK5 (by omega) ?_; intro w6 hO6 hk6 hs6)
          go_meet
          exact ⟨hO6, hk6, hs6 w hS5 hqw⟩
      obtain ⟨hO, hkp, hS⟩ := hcut
      have hc6 := hkp.cell hc5 hb5 hbq
      have hb6 : hb0 < wc.heap.size := Nat.lt_of_lt_of_le hb5 hkp.1
      clear hc5
      go_wp2_with (go_at_call 52; (with_reducible refine (ou_reverse w.heap.size q n L _ hO HNL.out.symm hml).mono ?_); intro e w7 h7; obtain ⟨⟨v7, rfl⟩, hO7, hk7, hs7⟩ := h7)
      go_roundw
      case rel =>
        have hkp7 := hkp.trans hk7
        refine ⟨j + 1, _, by omega, by go_num, by rw [List.length_set]; exact hsl, OwnG.but hOh hkp7 (fun e => by injection e with e; exact hbq e), hs7 w hS hqw, Lib.hid (fun i x M hi h1 h2 => ?_)⟩
        by_cases e : i = j
        · subst e
          rw [List.getElem?_set_self (by omega)] at h1
          injection h1 with h1
          rw [HLJ.out] at h2
          injection h2 with h2
          subst h1 h2
          exact hO7
        · rw [List.getElem?_set_ne (fun x => e x.symm)] at h1
          obtain ⟨hk5, hx5⟩ := HR5.out i x M (by omega) h1 h2
          exact OwnG.but hk5 hkp7 hx5
      case measure => simp [intOf]; omega
    · obtain rfl : N = j := by omega
      go_wp2_with fail
      go_ret
      refine ⟨_, w.heap.size, rfl, Nat.le_refl _, ⟨hs, by rw [List.length_map, hsl]; exact HN.out, hO, fun i x M h1 h2 => ?_⟩, hS⟩
      rw [List.getElem?_map] at h2
      cases hg : LL[i]? with
      | none => rw [hg] at h2; cases h2
      | some L =>
        rw [hg] at h2
        simp only [Option.map_some, Option.some.injEq] at h2
        subst h2
        have hi : i < LL.length := by
          rcases Nat.lt_or_ge i LL.length with h | h
          · exact h
          · rw [List.getElem?_eq_none h] at hg; cases hg
        exact HK.out i x L (by rw [HN.out]; exact hi) h1 hg
end Go.Proofs.Ytdbenpncnkfliaa

/-
  Layer 11: a contour's pieces, knot by knot; begun with another knot they are the same, in another order.
-/
namespace Go.Proofs.Ytdbenpncnkfliaa
open Go.RowKit
set_option linter.unusedVariables false

section
variable (n : Nat) (X Y : Nat → Int) (O : Nat → Bool)
/-- Where the way is, ahead of a knot's step. -/
def hereE (j : Nat) : Int × Int := if O j then (X j, Y j) else (if O ((j + n - 1) % n) then (X ((j + n - 1) % n), Y ((j + n - 1) % n)) else (mid (X ((j + n - 1) % n)) (X j), mid (Y ((j + n - 1) % n)) (Y j)))
/-- A knot's piece, or none. -/
def emitE (j : Nat) : List Sg :=
  if O j then (if O ((j + 1) % n) then addS [] ⟨(hereE n X Y O j).1, (hereE n X Y O j).2, 0, 0, X ((j + 1) % n), Y ((j + 1) % n), false⟩ else [])
  else (if O ((j + 1) % n) then addS [] ⟨(hereE n X Y O j).1, (hereE n X Y O j).2, X j, Y j, X ((j + 1) % n), Y ((j + 1) % n), true⟩
    else addS [] ⟨(hereE n X Y O j).1, (hereE n X Y O j).2, X j, Y j, mid (X j) (X ((j + 1) % n)), mid (Y j) (Y ((j + 1) % n)), true⟩)
theorem addS_nil (L : List Sg) (s : Sg) : addS L s = L ++ addS [] s := by unfold addS; split <;> simp
theorem prev_next {k : Nat} (hn : 0 < n) (hk : k < n) : ((k + 1) % n + n - 1) % n = k := by
  by_cases e : k + 1 < n
  · rw [Nat.mod_eq_of_lt e, show k + 1 + n - 1 = k + n by omega, Nat.add_mod_right, Nat.mod_eq_of_lt hk]
  · have e2 : k + 1 = n := by omega
    rw [e2, Nat.mod_self, Nat.zero_add, Nat.mod_eq_of_lt (by omega)]
    omega
theorem step_emit (f : Nat) (hn : 0 < n) (L : List Sg) (i : Nat) :
    stepS f n X Y O (hereE n X Y O ((f + i) % n)) L i = (hereE n X Y O ((f + i + 1) % n), L ++ emitE n X Y O ((f + i) % n)) := by
  have hk : (f + i) % n < n := Nat.mod_lt _ hn
  have em : (f + i + 1) % n = ((f + i) % n + 1) % n := by rw [Nat.mod_add_mod]
  unfold stepS
  rw [em]
  generalize (f + i) % n = k at *
  have hp := prev_next n hn hk
  clear em
  have hH : hereE n X Y O ((k + 1) % n) = if O ((k + 1) % n) then (X ((k + 1) % n), Y ((k + 1) % n)) else (if O k then (X k, Y k) else (mid (X k) (X ((k + 1) % n)), mid (Y k) (Y ((k + 1) % n)))) := by
    unfold hereE
    rw [hp]
  unfold emitE
  cases ho : O k <;> cases hm : O ((k + 1) % n) <;> rw [hH, ho, hm] <;> simp only [if_true, if_false, Bool.false_eq_true]
  · rw [addS_nil]
  · rw [addS_nil]
  · rw [List.append_nil]
    unfold hereE
    rw [ho]
    rfl
  · rw [addS_nil]
theorem run_emit (f : Nat) (hn : 0 < n) : ∀ i, runS f n X Y O (hereE n X Y O (f % n)) i = (hereE n X Y O ((f + i) % n), (List.range i).flatMap (fun t => emitE n X Y O ((f + t) % n)))
  | 0 => by simp [runS]
  | i + 1 => by
    have ih := run_emit f hn i
    show stepS f n X Y O (runS f n X Y O (hereE n X Y O (f % n)) i).1 (runS f n X Y O (hereE n X Y O (f % n)) i).2 i = _
    rw [ih]
    simp only
    rw [step_emit n X Y O f hn, List.range_succ, List.flatMap_append]
    simp [Nat.add_assoc]
theorem start_here (hn : 0 < n) : startS n X Y O = hereE n X Y O (frs n O % n) := by
  have hfo := firstOn_is O n
  unfold startS frs hereE
  by_cases hlt : firstOn O n < n
  · rw [if_pos hlt, if_pos hlt, Nat.mod_eq_of_lt hlt, hfo.2.2 hlt]
    rfl
  · rw [if_neg hlt, if_neg hlt, Nat.mod_eq_of_lt hn, hfo.2.1 0 (by omega), Nat.zero_add, Nat.mod_eq_of_lt (by omega), hfo.2.1 (n - 1) (by omega)]
    rfl
theorem segs_emit (hn : 0 < n) : segsL n X Y O = (List.range n).flatMap (fun t => emitE n X Y O ((frs n O + t) % n)) := by
  unfold segsL
  rw [if_neg (by omega), start_here n X Y O hn, run_emit n X Y O (frs n O) hn n]
end
theorem rot_perm (f n : Nat) (hf : f < n) : ((List.range n).map (fun t => (f + t) % n)).Perm (List.range n) := by
  obtain ⟨d, rfl⟩ : ∃ d, n = d + f := ⟨n - f, by omega⟩
  have h1 : (List.range (d + f)).map (fun t => (f + t) % (d + f)) = (List.range d).map (fun t => f + t) ++ List.range f := by
    rw [List.range_add, List.map_append, List.map_map]
    congr 1
    · apply List.map_congr_left
      intro t ht
      rw [List.mem_range] at ht
      rw [Nat.mod_eq_of_lt (by omega)]
    · conv => rhs; rw [← List.map_id (List.range f)]
      apply List.map_congr_left
      intro t ht
      rw [List.mem_range] at ht
      show (f + (d + t)) % (d + f) = t
      rw [show f + (d + t) = t + (d + f) by omega, Nat.add_mod_right, Nat.mod_eq_of_lt (by omega)]
  rw [h1]
  refine List.perm_append_comm.trans ?_
  rw [← List.range_add, Nat.add_comm f d]
theorem flat_rot {α : Type} (E : Nat → List α) (f n : Nat) (hf : f < n) : ((List.range n).flatMap (fun t => E ((f + t) % n))).Perm ((List.range n).flatMap E) := by
  have h : (List.range n).flatMap (fun t => E ((f + t) % n)) = ((List.range n).map (fun t => (f + t) % n)).flatMap E := by rw [List.flatMap_map]
  rw [h]
  exact (rot_perm f n hf).flatMap_right E
theorem flat_congr {α β : Type} {E E' : α → List β} : ∀ l : List α, (∀ t, t ∈ l → E t = E' t) → l.flatMap E = l.flatMap E'
  | [], h => rfl
  | a :: l, h => by rw [List.flatMap_cons, List.flatMap_cons, h a (by simp), flat_congr l (fun t ht => h t (by simp [ht]))]
theorem segs_perm (n : Nat) (X Y : Nat → Int) (O : Nat → Bool) (hn : 0 < n) : (segsL n X Y O).Perm ((List.range n).flatMap (emitE n X Y O)) := by
  rw [segs_emit n X Y O hn]
  exact flat_rot _ _ _ (by unfold frs; split <;> omega)
theorem emit_congr {n : Nat} {X Y X' Y' : Nat → Int} {O O' : Nat → Bool} {k : Nat} (hn : 0 < n) (hX : ∀ j, j < n → X' j = X ((k + j) % n)) (hY : ∀ j, j < n → Y' j = Y ((k + j) % n)) (hO : ∀ j, j < n → O' j = O ((k + j) % n)) {j : Nat} (hj : j < n) :
    emitE n X' Y' O' j = emitE n X Y O ((k + j) % n) := by
  have hm : (j + 1) % n < n := Nat.mod_lt _ hn
  have hp : (j + n - 1) % n < n := Nat.mod_lt _ hn
  have e1 : (k + (j + 1) % n) % n = ((k + j) % n + 1) % n := by rw [Nat.add_mod_mod, Nat.mod_add_mod, Nat.add_assoc]
  have e2 : (k + (j + n - 1) % n) % n = ((k + j) % n + n - 1) % n := by
    rw [Nat.add_mod_mod]
    have hq : (k + j) % n < n := Nat.mod_lt _ hn
    have h := Nat.div_add_mod (k + j) n
    have e : k + (j + n - 1) = ((k + j) % n + n - 1) + n * ((k + j) / n) := by omega
    rw [e, Nat.add_mul_mod_self_left]
  unfold emitE hereE
  rw [hX j hj, hY j hj, hO j hj, hX _ hm, hY _ hm, hO _ hm, hX _ hp, hY _ hp, hO _ hp, e1, e2]
/-- A contour begun with another knot. -/
theorem segs_begun {n : Nat} {X Y X' Y' : Nat → Int} {O O' : Nat → Bool} {k : Nat} (hn : 0 < n) (hk : k < n) (hX : ∀ j, j < n → X' j = X ((k + j) % n)) (hY : ∀ j, j < n → Y' j = Y ((k + j) % n)) (hO : ∀ j, j < n → O' j = O ((k + j) % n)) :
    (segsL n X Y O).Perm (segsL n X' Y' O') := by
  refine (segs_perm n X Y O hn).trans (List.Perm.symm ?_)
  refine (segs_perm n X' Y' O' hn).trans ?_
  have h : (List.range n).flatMap (emitE n X' Y' O') = (List.range n).flatMap (fun t => emitE n X Y O ((k + t) % n)) := by
    exact flat_congr _ fun t ht => emit_congr hn hX hY hO (List.mem_range.1 ht)
  rw [h]
  exact flat_rot _ _ _ hk
end Go.Proofs.Ytdbenpncnkfliaa

/-
  Layer 11: the reference's 'Alike' of lists of pieces that are the same but for their order.
-/
namespace Go.Proofs.Ytdbenpncnkfliaa
open Go.RowKit Go.ChangeShapes Go.WideShapes Go.Deep
set_option linter.unusedVariables false

/-- A piece gone the other way. -/
def flipS (s : Sg) : Sg := ⟨s.bx, s.bz, s.cx, s.cy, s.ax, s.ay, s.k⟩
def fb (back : Bool) (s : Sg) : Sg := if back then flipS s else s
theorem fb_map (L : List Sg) : L.map (fb false) = L := by
  have h : fb false = id := by funext s; rfl
  rw [h, List.map_id]
theorem sgEq_iff (s t : Sg) : sgEq s t = true ↔ s = t := by
  obtain ⟨a0, a1, a2, a3, a4, a5, ak⟩ := s
  obtain ⟨b0, b1, b2, b3, b4, b5, bk⟩ := t
  simp [sgEq, and_assoc]
theorem filt_one (U U' : Nat → Bool) (q : Nat) (hU : U q = false) (hU' : ∀ t, U' t = if t = q then true else U t) : ∀ m, q < m → ((List.range m).filter (fun i => !U i)).Perm (q :: (List.range m).filter (fun i => !U' i))
  | 0, h => by omega
  | m + 1, h => by
    rw [List.range_succ, List.filter_append, List.filter_append]
    by_cases e : q = m
    · subst e
      have h1 : (List.range q).filter (fun i => !U i) = (List.range q).filter (fun i => !U' i) := by
        apply List.filter_congr
        intro t ht
        rw [List.mem_range] at ht
        rw [hU', if_neg (by omega)]
      have h2 : U' q = true := by rw [hU', if_pos rfl]
      rw [h1]
      simp only [List.filter_cons, hU, h2, Bool.not_false, Bool.not_true, if_true, List.filter_nil, Bool.false_eq_true, if_false, List.append_nil]
      exact List.perm_append_comm
    · have ih := filt_one U U' q hU hU' m (by omega)
      have h2 : U' m = U m := by rw [hU', if_neg (by omega)]
      have h3 : [m].filter (fun i => !U i) = [m].filter (fun i => !U' i) := by simp only [List.filter_cons, h2, List.filter_nil]
      rw [h3]
      exact ih.append_right _
def D0 : Sg := ⟨0, 0, 0, 0, 0, 0, false⟩
def left (back : Bool) (M : List Sg) (m : Nat) (U : Nat → Bool) : List Sg := ((List.range m).filter (fun i => !U i)).map (fun i => fb back (M.getD i D0))
theorem left_start (back : Bool) (M : List Sg) : left back M M.length (fun _ => false) = M.map (fb back) := by
  unfold left
  have h0 : (List.range M.length).filter (fun i => !(fun _ => false) i) = List.range M.length := List.filter_eq_self.2 (by simp)
  rw [h0]
  apply List.ext_getElem?
  intro j
  by_cases h : j < M.length
  · simp [h]
  · simp [h]
theorem left_step {back : Bool} {M : List Sg} {m q : Nat} {U U' : Nat → Bool} (hq : q < m) (hU : U q = false) (hU' : ∀ t, U' t = if t = q then true else U t) :
    (left back M m U).Perm (fb back (M.getD q D0) :: left back M m U') := by
  unfold left
  exact (filt_one U U' q hU hU' m hq).map _
theorem left_mem {back : Bool} {M : List Sg} {m : Nat} {U : Nat → Bool} {s : Sg} (h : s ∈ left back M m U) : ∃ q, q < m ∧ U q = false ∧ fb back (M.getD q D0) = s := by
  unfold left at h
  rw [List.mem_map] at h
  obtain ⟨q, hq, e⟩ := h
  rw [List.mem_filter, List.mem_range] at hq
  exact ⟨q, hq.1, by simpa using hq.2, e⟩
theorem infoB0 : (Try.prog.info? 4).map (fun i => (i.zero, i.size, i.bytes)) = some (some (.bool false), 1, 1) := by kernel_rfl
/-- The used ones. -/
def Uf (U : Nat → Bool) (j : Nat) : Value := .bool (U j)
theorem zero_b (j : Nat) : (Value.bool false).cells[j % (Value.bool false).cells.size]! = Uf (fun _ => false) j := by
  have h : (Value.bool false).cells.size = 1 := rfl
  rw [h, Nat.mod_one]
  rfl
theorem uset {w : World} {b m : Nat} {U : Nat → Bool} (h : Row w b m (Uf U)) (i : Nat) : Row (w.setCell ⟨b, i, none⟩ (.bool true)) b m (Uf (fun t => if t = i then true else U t)) := by
  refine (h.set i _).congr fun j hj => ?_
  show (if j = i then Value.bool true else .bool (U j)) = .bool (if j = i then true else U j)
  split <;> rfl
theorem sflip {w : World} {b : Nat} {s : Sg} (h : Row w b 7 (Sf s)) : Row ((((w.setCell ⟨b, 0, none⟩ (.int .i64 s.bx)).setCell ⟨b, 1, none⟩ (.int .i64 s.bz)).setCell ⟨b, 4, none⟩ (.int .i64 s.ax)).setCell ⟨b, 5, none⟩ (.int .i64 s.ay)) b 7 (Sf (flipS s)) := by
  refine ((((h.set 0 _).set 1 _).set 4 _).set 5 _).congr fun j hj => ?_
  have hh : j = 0 ∨ j = 1 ∨ j = 2 ∨ j = 3 ∨ j = 4 ∨ j = 5 ∨ j = 6 := by omega
  rcases hh with rfl | rfl | rfl | rfl | rfl | rfl | rfl <;> rfl
set_option maxRecDepth 100000 in
set_option maxHeartbeats 16000000 in
theorem rf_alike (A A' : Option Addr) (c c' : Nat) (L M : List Sg) (back : Bool) (w : World) (h : RdS w w.heap.size A L) (h' : RdS w w.heap.size A' M) (hp : L.Perm (M.map (fb back))) (hn : L.length ≤ 1000000) :
    Calls Try.prog 27 #[.slice A L.length c, .slice A' M.length c', .bool back] w fun e w' => e = .returned (.bool true) ∧ Since w w' := by
  have hlm : M.length = L.length := by have := hp.length_eq; rw [List.length_map] at this; exact this.symm
  rw [hlm]
  obtain ⟨m, hm⟩ : ∃ m, m = L.length := ⟨_, rfl⟩
  rw [← hm]
  have HML := Lib.hid hm
  have HMM := Lib.hid (hm.trans hlm.symm)
  have hm1 : m ≤ 1000000 := by omega
  have HPM := Lib.hid hp
  clear hm hlm hn hp
  obtain ⟨i0, hi0, hz0, hz1, hz2⟩ := info_parts infoB0
  go_enter Try.func27, Try.ntmps27
  go_wp2_with (at_make; refine wpList_make_k _ (by rfl) _ _ _ (by rfl) 4 i0 _ 1 1 Try.underlying80 hi0 hz0 hz1 hz2 (Uf (fun _ => false)) zero_b .i64 .i64 m (by rfl) (by rfl) (by omega) (by simp only [maxLen]; omega) ?_; intro w1 hown1 hS1)
  have rU := row_of_own_k (k := 1) (by omega) hown1
  rw [Nat.mul_one] at rU
  obtain ⟨g, hg⟩ : ∃ g, g = w.heap.size := ⟨_, rfl⟩
  have hgw : w.heap.size ≤ g := by omega
  rw [← hg] at rU ⊢
  clear hg hown1
  go_loopw [23] (fun y wr => ∃ (j : Nat) (U : Nat → Bool), j ≤ m ∧ y = .int .i64 (j : Int) ∧ Row wr g m (Uf U) ∧ Since w wr ∧ Hid ((L.drop j).Perm (left back M m U))) (fun y _ => m - (intOf y).toNat)
  case atStart => exact ⟨0, _, by omega, rfl, rU, hS1, Lib.hid (by rw [HMM.out, left_start]; exact HPM.out)⟩
  case round =>
    obtain ⟨j, U, hj, rfl, rU, hSr, HP⟩ := hrel
    by_cases hjm : j < m
    · have hjm' : (j : Int) < m := by omega
      have hml := HML.out
      obtain ⟨b, o, rfl, hb, hc⟩ := h (by omega)
      have hs : L[j]? = some L[j] := List.getElem?_eq_getElem (by omega)
      have hdrop : L.drop j = L[j] :: L.drop (j + 1) := List.drop_eq_getElem_cons (by omega)
      have hHD := Lib.hid hdrop
      obtain ⟨x1, x2, x3, x4, x5, x6, x7⟩ := hc j _ hs
      clear hs hdrop
      generalize L[j] = s at *
      obtain ⟨ax, ay, cx, cy, bx, bz, k⟩ := s
      simp only at x1 x2 x3 x4 x5 x6 x7
      have x1 := (hSr.1 _ _ hb).trans x1
      have x2 := (hSr.1 _ _ hb).trans x2
      have x3 := (hSr.1 _ _ hb).trans x3
      have x4 := (hSr.1 _ _ hb).trans x4
      have x5 := (hSr.1 _ _ hb).trans x5
      have x6 := (hSr.1 _ _ hb).trans x6
      have x7 := (hSr.1 _ _ hb).trans x7
      have hbw := hSr.2.2.1 _ hb
      clear hc hml h
      go_upto_region 7 with fail
      refine wp_named fun w3 hw3 => ?_
      have rS : Row w3 wr.heap.size 7 (Sf ⟨ax, ay, cx, cy, bx, bz, k⟩) := by subst hw3; exact srow wr _ rfl _ ⟨ax, ay, cx, cy, bx, bz, k⟩
      have hS3 : Since wr w3 := by subst hw3; (repeat (first | with_reducible (exact Since.refl _) | with_reducible assumption | with_reducible (refine Since.drew ?_) | with_reducible (refine Since.drewN ?_ _) | with_reducible (refine Since.alloc ?_ _) | (with_reducible (refine Since.setCell ?_ ?_ _); rotate_left; focus (first | (simp; done) | (simp; omega) | omega)) | (with_reducible (refine Since.trans ?_ (by with_reducible assumption)))))
      have rU3 := rU.since hS3
      have hSw := hSr.trans hS3
      have hrg : g < wr.heap.size := rU.2.2
      clear hw3 x1 x2 x3 x4 x5 x6 x7 hbw
      generalize wr.heap.size = r at *
      go_upto_block 2 with fail
      go_cut [10] (fun v wx => v = .bool true ∧ Since w wx ∧ ∃ U', Row wx g m (Uf U') ∧ Hid ((L.drop (j + 1)).Perm (left back M m U')))
      case first =>
        go_wp2_with fail
        go_loopw [10, 29] (fun v z wr' => ∃ (i : Nat) (fd : Bool) (V : Nat → Bool), i ≤ m ∧ z = .int .i64 (i : Int) ∧ v = .bool fd ∧ Row wr' g m (Uf V) ∧ Row wr' r 7 (Sf ⟨ax, ay, cx, cy, bx, bz, k⟩) ∧ Since w wr' ∧ Hid ((fd = true ∧ ∃ q, q < m ∧ U q = false ∧ fb back (M.getD q D0) = ⟨ax, ay, cx, cy, bx, bz, k⟩ ∧ ∀ t, V t = (if t = q then true else U t)) ∨ (fd = false ∧ (∀ t, V t = U t) ∧ ∀ q, q < i → U q = false → fb back (M.getD q D0) ≠ ⟨ax, ay, cx, cy, bx, bz, k⟩))) (fun _ z _ => m - (intOf z).toNat)
        case atStart => exact ⟨0, false, U, by omega, rfl, rfl, rU3, rS, hSw, Lib.hid (.inr ⟨rfl, fun t => rfl, fun q hq => absurd hq (by omega)⟩)⟩
        case round =>
          obtain ⟨i, fd, V, hi, rfl, rfl, rV, rS, hSq, HQ⟩ := hrel
          by_cases him : i < m
          · have him' : (i : Int) < m := by omega
            have hmm := HMM.out
            obtain ⟨b', o', rfl, hb', hc'⟩ := h' (by omega)
            have ht : M[i]? = some M[i] := List.getElem?_eq_getElem (by omega)
            have hgd : M.getD i D0 = M[i] := by rw [List.getD_eq_getElem?_getD, ht]; rfl
            obtain ⟨x1, x2, x3, x4, x5, x6, x7⟩ := hc' i _ ht
            have HGD := Lib.hid hgd
            generalize M[i] = t at *
            clear ht hgd hmm hc'
            have x1 := (hSq.1 _ _ hb').trans x1
            have x2 := (hSq.1 _ _ hb').trans x2
            have x3 := (hSq.1 _ _ hb').trans x3
            have x4 := (hSq.1 _ _ hb').trans x4
            have x5 := (hSq.1 _ _ hb').trans x5
            have x6 := (hSq.1 _ _ hb').trans x6
            have x7 := (hSq.1 _ _ hb').trans x7
            have hbw := hSq.2.2.1 _ hb'
            go_upto_region 11 with fail
            refine wp_named fun w5 hw5 => ?_
            have rT : Row w5 wr.heap.size 7 (Sf t) := by subst hw5; exact srow wr _ rfl _ t
            have hS5 : Since wr w5 := by subst hw5; (repeat (first | with_reducible (exact Since.refl _) | with_reducible assumption | with_reducible (refine Since.drew ?_) | with_reducible (refine Since.drewN ?_ _) | with_reducible (refine Since.alloc ?_ _) | (with_reducible (refine Since.setCell ?_ ?_ _); rotate_left; focus (first | (simp; done) | (simp; omega) | omega)) | (with_reducible (refine Since.trans ?_ (by with_reducible assumption)))))
            clear hw5 x1 x2 x3 x4 x5 x6 x7 hbw
            have hrt : wr.heap.size ≤ wr.heap.size := Nat.le_refl _
            have hgt : g < wr.heap.size := rV.2.2
            have hrl : r < wr.heap.size := rS.2.2
            obtain ⟨q0, hq0⟩ : ∃ q0, q0 = wr.heap.size := ⟨_, rfl⟩
            have hrt : wr.heap.size ≤ q0 := by omega
            rw [← hq0] at rT hgt hrl ⊢
            clear hq0
            obtain ⟨t1, t2, t3, t4, t5, t6, t7, t8⟩ := scells rT
            have z0 := rT.2.1 0
            have z1 := rT.2.1 1
            have z4 := rT.2.1 4
            have z5 := rT.2.1 5
            go_upto_if 34 with fail
            go_cut [] (fun wx => Since wr wx ∧ Row wx q0 7 (Sf (fb back t)))
            case first =>
              cases back
              · go_wp2_with fail
                go_meet
                exact ⟨hS5, rT⟩
              · go_wp2_with fail
                go_meet
                exact ⟨(((hS5.setCell hrt _).setCell hrt _).setCell hrt _).setCell hrt _, sflip rT⟩
            obtain ⟨hSx, rT⟩ := hcut
            clear t1 t2 t3 t4 t5 t6 t7 t8 z0 z1 z4 z5 hS5
            obtain ⟨u, hu⟩ : ∃ u, u = fb back t := ⟨_, rfl⟩
            rw [← hu] at rT
            have HU := Lib.hid hu
            clear hu
            have hcmp := fun w => eq_segs w ⟨ax, ay, cx, cy, bx, bz, k⟩ u
            have hiff := sgEq_iff ⟨ax, ay, cx, cy, bx, bz, k⟩ u
            generalize sgEq ⟨ax, ay, cx, cy, bx, bz, k⟩ u = qe at *
            have HIF := Lib.hid hiff
            clear hiff
            obtain ⟨u0, u1, u2, u3, u4, u5, uk⟩ := u
            unfold Sg.v at hcmp
            simp only at hcmp
            have rV2 := rV.since hSx
            have rS2 := rS.since hSx
            have hSn := hSq.trans hSx
            obtain ⟨s1, s2, s3, s4, s5, s6, s7, s8⟩ := scells rS2
            obtain ⟨t1, t2, t3, t4, t5, t6, t7, t8⟩ := scells rT
            simp only at s1 s2 s3 s4 s5 s6 s7 t1 t2 t3 t4 t5 t6 t7
            have v1 : wc.cell? ⟨g, i, none⟩ = some (.bool (V i)) := rV2.1 i him
            have v2 := rV2.2.1 i
            have v3 := rV2.2.2
            have HVi := Lib.hid (Eq.refl (V i))
            have hne : g ≠ q0 := by omega
            cases fd
            · cases hV : V i
              · rw [hV] at v1
                cases qe
                · go_wp2_with fail
                  go_roundw
                  case rel =>
                    refine ⟨i + 1, false, V, by omega, by go_num, rfl, rV2, rS2, hSn, Lib.hid ?_⟩
                    rcases HQ.out with ⟨h1, _⟩ | ⟨_, h2, h3⟩
                    · cases h1
                    · refine .inr ⟨rfl, h2, fun q hq hUq => ?_⟩
                      by_cases e : q = i
                      · subst e
                        rw [HGD.out, ← HU.out]
                        intro e2
                        have := HIF.out.2 e2.symm
                        cases this
                      · exact h3 q (by omega) hUq
                  case measure => simp [intOf]; omega
                · go_wp2_with fail
                  go_roundw
                  case rel =>
                    refine ⟨i + 1, true, _, by omega, by go_num, rfl, uset rV2 i, rS2.far (by omega) _ _, hSn.setCell hgw _, Lib.hid ?_⟩
                    rcases HQ.out with ⟨h1, _⟩ | ⟨_, h2, h3⟩
                    · cases h1
                    · refine .inl ⟨rfl, i, him, by rw [← h2]; exact hV, ?_, fun t => ?_⟩
                      · rw [HGD.out, ← HU.out]
                        exact (HIF.out.1 rfl).symm
                      · rw [h2]
                  case measure => simp [intOf]; omega
              · rw [hV] at v1
                go_wp2_with fail
                go_roundw
                case rel =>
                  refine ⟨i + 1, false, V, by omega, by go_num, rfl, rV2, rS2, hSn, Lib.hid ?_⟩
                  rcases HQ.out with ⟨h1, _⟩ | ⟨_, h2, h3⟩
                  · cases h1
                  · refine .inr ⟨rfl, h2, fun q hq hUq => ?_⟩
                    by_cases e : q = i
                    · subst e
                      rw [h2, hUq] at hV
                      cases hV
                    · exact h3 q (by omega) hUq
                case measure => simp [intOf]; omega
            · go_wp2_with fail
              go_roundw
              case rel =>
                refine ⟨i + 1, true, V, by omega, by go_num, rfl, rV2, rS2, hSn, Lib.hid ?_⟩
                rcases HQ.out with h1 | ⟨h1, _⟩
                · exact .inl h1
                · cases h1
              case measure => simp [intOf]; omega
          · obtain rfl : m = i := by omega
            have hp := HP.out
            rw [hHD.out] at hp
            have hfd : fd = true ∧ ∃ q, q < m ∧ U q = false ∧ fb back (M.getD q D0) = ⟨ax, ay, cx, cy, bx, bz, k⟩ ∧ ∀ t, V t = (if t = q then true else U t) := by
              rcases HQ.out with h1 | ⟨_, _, h3⟩
              · exact h1
              · obtain ⟨q, hq, hU, e⟩ := left_mem (hp.mem_iff.1 (List.mem_cons_self ..))
                exact absurd e (h3 q hq hU)
            obtain ⟨rfl, q, hq, hUq, hMq, hVq⟩ := hfd
            have hp2 := hp.trans (left_step (back := back) (M := M) hq hUq hVq)
            rw [hMq] at hp2
            have hp3 := hp2.cons_inv
            have HP3 := Lib.hid hp3
            clear hp hp2 hp3 hMq hVq
            go_wp2_with fail
            go_meet
            exact ⟨rfl, hSq, V, rV, HP3⟩
      obtain ⟨rfl, hSx, U', rU', HP'⟩ := hcut
      go_wp2_with fail
      go_roundw
      case rel => exact ⟨j + 1, U', by omega, by go_num, rU', hSx, HP'⟩
      case measure => simp [intOf]; omega
    · obtain rfl : m = j := by omega
      go_wp2_with fail
      go_ret
      exact ⟨rfl, hSr⟩
end Go.Proofs.Ytdbenpncnkfliaa

/-
  Layer 11: a contour gone the other way has the same pieces, gone the other way: as lists.
-/
namespace Go.Proofs.Ytdbenpncnkfliaa
open Go.RowKit
set_option linter.unusedVariables false

theorem flipS_flipS (s : Sg) : flipS (flipS s) = s := rfl
theorem sgOk_flip (s : Sg) : sgOk (flipS s) = sgOk s := by
  obtain ⟨ax, ay, cx, cy, bx, bz, k⟩ := s
  unfold sgOk flipS
  simp only
  by_cases e1 : ax = bx
  · by_cases e2 : ay = bz
    · subst e1 e2; rfl
    · subst e1
      have h1 : (ay == bz) = false := by simp [e2]
      have h2 : (bz == ay) = false := by simp; exact fun e => e2 e.symm
      simp [h1, h2]
  · have h1 : (ax == bx) = false := by simp [e1]
    have h2 : (bx == ax) = false := by simp; exact fun e => e1 e.symm
    simp [h1, h2]
theorem addS_flip (s : Sg) : addS [] (flipS s) = (addS [] s).map flipS := by
  unfold addS
  rw [sgOk_flip]
  split <;> rfl
section
variable (n : Nat) (X Y : Nat → Int) (O : Nat → Bool)
def nxt (j : Nat) : Nat := (j + 1) % n
def prv (j : Nat) : Nat := (j + n - 1) % n
/-- The straight piece between two knots on the curve. -/
def lineQ (i m : Nat) : List Sg := if O i && O m then addS [] ⟨X i, Y i, 0, 0, X m, Y m, false⟩ else []
/-- The end of a curve, towards another knot. -/
def endQ (i m : Nat) : Int × Int := if O m then (X m, Y m) else (mid (X i) (X m), mid (Y i) (Y m))
/-- The curve of a knot between two others. -/
def curveQ (p i m : Nat) : List Sg := if O i then [] else addS [] ⟨(endQ X Y O i p).1, (endQ X Y O i p).2, X i, Y i, (endQ X Y O i m).1, (endQ X Y O i m).2, true⟩
theorem emit_parts (j : Nat) : emitE n X Y O j = lineQ X Y O j (nxt n j) ++ curveQ X Y O (prv n j) j (nxt n j) := by
  unfold emitE lineQ curveQ endQ hereE nxt prv
  have mc : ∀ a b, mid a b = mid b a := fun a b => by unfold mid; rw [Int.add_comm]
  cases h1 : O j <;> cases h2 : O ((j + 1) % n) <;> cases h3 : O ((j + n - 1) % n) <;> simp [mc (X j) (X ((j + n - 1) % n)), mc (Y j) (Y ((j + n - 1) % n))]
end
theorem line_flip (X Y : Nat → Int) (O : Nat → Bool) (i m : Nat) : lineQ X Y O m i = (lineQ X Y O i m).map flipS := by
  unfold lineQ
  rw [Bool.and_comm]
  split
  · rw [← addS_flip]; rfl
  · rfl
theorem curve_flip (X Y : Nat → Int) (O : Nat → Bool) (p i m : Nat) : curveQ X Y O m i p = (curveQ X Y O p i m).map flipS := by
  unfold curveQ
  split
  · rfl
  · rw [← addS_flip]; rfl
theorem flat_parts {α β : Type} (E F : α → List β) : ∀ l : List α, (l.flatMap (fun t => E t ++ F t)).Perm (l.flatMap E ++ l.flatMap F)
  | [] => List.Perm.refl _
  | a :: l => by
    rw [List.flatMap_cons, List.flatMap_cons, List.flatMap_cons, List.append_assoc, List.append_assoc]
    refine List.Perm.append_left _ ?_
    refine ((flat_parts E F l).append_left _).trans ?_
    rw [← List.append_assoc, ← List.append_assoc]
    exact List.perm_append_comm.append_right _
theorem flat_map_perm {α : Type} (E : Nat → List α) (n : Nat) (s : Nat → Nat) (h : ((List.range n).map s).Perm (List.range n)) : ((List.range n).flatMap (fun t => E (s t))).Perm ((List.range n).flatMap E) := by
  have e : (List.range n).flatMap (fun t => E (s t)) = ((List.range n).map s).flatMap E := by rw [List.flatMap_map]
  rw [e]
  exact h.flatMap_right E
theorem rev_perm (n : Nat) : ((List.range n).map (fun j => n - 1 - j)).Perm (List.range n) := by
  have e : (List.range n).map (fun j => n - 1 - j) = (List.range n).reverse := by
    apply List.ext_getElem?
    intro j
    by_cases hj : j < n
    · rw [List.getElem?_map, List.getElem?_range hj, List.getElem?_reverse (by simpa using hj), List.length_range, List.getElem?_range (by omega)]
      rfl
    · rw [List.getElem?_eq_none (by simp; omega), List.getElem?_eq_none (by simp; omega)]
  rw [e]
  exact List.reverse_perm _
theorem rev_next_perm (n : Nat) (hn : 0 < n) : ((List.range n).map (fun j => n - 1 - (j + 1) % n)).Perm (List.range n) := by
  have e : (List.range n).map (fun j => n - 1 - (j + 1) % n) = ((List.range n).map (fun t => (1 % n + t) % n)).map (fun j => n - 1 - j) := by
    rw [List.map_map]
    apply List.map_congr_left
    intro t ht
    show n - 1 - (t + 1) % n = n - 1 - (1 % n + t) % n
    rw [Nat.mod_add_mod, Nat.add_comm t 1]
  rw [e]
  exact ((rot_perm (1 % n) n (Nat.mod_lt _ hn)).map _).trans (rev_perm n)
theorem rev_next {n j : Nat} (hj : j < n) : n - 1 - (j + 1) % n = (n - 1 - j + n - 1) % n := by
  by_cases e : j + 1 < n
  · rw [Nat.mod_eq_of_lt e, show n - 1 - j + n - 1 = (n - 1 - (j + 1)) + n by omega, Nat.add_mod_right, Nat.mod_eq_of_lt (by omega)]
  · have e2 : j + 1 = n := by omega
    rw [e2, Nat.mod_self, show n - 1 - j + n - 1 = n - 1 by omega, Nat.mod_eq_of_lt (by omega)]
    omega
theorem rev_prev {n j : Nat} (hj : j < n) : n - 1 - (j + n - 1) % n = (n - 1 - j + 1) % n := by
  by_cases e : j = 0
  · subst e
    rw [show 0 + n - 1 = n - 1 by omega, Nat.mod_eq_of_lt (by omega), show n - 1 - 0 + 1 = n by omega, Nat.mod_self]
    omega
  · rw [show j + n - 1 = (j - 1) + n by omega, Nat.add_mod_right, Nat.mod_eq_of_lt (by omega), Nat.mod_eq_of_lt (by omega)]
    omega
theorem next_prev {n k : Nat} (hk : k < n) : ((k + n - 1) % n + 1) % n = k := by
  by_cases e : k = 0
  · subst e
    rw [show 0 + n - 1 = n - 1 by omega, Nat.mod_eq_of_lt (show n - 1 < n by omega), show n - 1 + 1 = n by omega, Nat.mod_self]
  · rw [show k + n - 1 = (k - 1) + n by omega, Nat.add_mod_right, Nat.mod_eq_of_lt (show k - 1 < n by omega), show k - 1 + 1 = k by omega, Nat.mod_eq_of_lt hk]
/-- A contour gone the other way. -/
theorem segs_flipped {n : Nat} {X Y X' Y' : Nat → Int} {O O' : Nat → Bool} (hX : ∀ j, j < n → X' j = X (n - 1 - j)) (hY : ∀ j, j < n → Y' j = Y (n - 1 - j)) (hO : ∀ j, j < n → O' j = O (n - 1 - j)) :
    (segsL n X Y O).Perm ((segsL n X' Y' O').map flipS) := by
  rcases Nat.eq_zero_or_pos n with h0 | hn
  · subst h0; exact List.Perm.refl _
  have hp : ∀ (X Y : Nat → Int) (O : Nat → Bool), (segsL n X Y O).Perm ((List.range n).flatMap (fun j => lineQ X Y O j (nxt n j)) ++ (List.range n).flatMap (fun j => curveQ X Y O (prv n j) j (nxt n j))) := fun X Y O => by
    refine (segs_perm n X Y O hn).trans ?_
    rw [flat_congr _ (fun t _ => emit_parts n X Y O t)]
    exact flat_parts _ _ _
  refine (hp X Y O).trans ?_
  refine List.Perm.trans ?_ ((hp X' Y' O').map flipS).symm
  rw [List.map_append]
  refine List.Perm.append ?_ ?_
  · have e : ((List.range n).flatMap (fun j => lineQ X' Y' O' j (nxt n j))).map flipS = (List.range n).flatMap (fun j => (fun i => lineQ X Y O i (nxt n i)) (n - 1 - (j + 1) % n)) := by
      rw [List.map_flatMap]
      refine flat_congr _ fun j hj => ?_
      have hj := List.mem_range.1 hj
      have hm : (j + 1) % n < n := Nat.mod_lt _ hn
      have e1 : nxt n (n - 1 - (j + 1) % n) = n - 1 - j := by
        unfold nxt
        rw [rev_next hj]
        exact next_prev (show n - 1 - j < n by omega)
      show (lineQ X' Y' O' j (nxt n j)).map flipS = lineQ X Y O (n - 1 - (j + 1) % n) (nxt n (n - 1 - (j + 1) % n))
      rw [e1, ← line_flip]
      unfold lineQ nxt
      rw [hX j hj, hY j hj, hO j hj, hX _ hm, hY _ hm, hO _ hm]
    rw [e]
    exact (flat_map_perm (fun i => lineQ X Y O i (nxt n i)) n _ (rev_next_perm n hn)).symm
  · have e : ((List.range n).flatMap (fun j => curveQ X' Y' O' (prv n j) j (nxt n j))).map flipS = (List.range n).flatMap (fun j => (fun i => curveQ X Y O (prv n i) i (nxt n i)) (n - 1 - j)) := by
      rw [List.map_flatMap]
      refine flat_congr _ fun j hj => ?_
      have hj := List.mem_range.1 hj
      have hm : (j + 1) % n < n := Nat.mod_lt _ hn
      have hq : (j + n - 1) % n < n := Nat.mod_lt _ hn
      have e1 := rev_next hj
      have e2 := rev_prev hj
      show (curveQ X' Y' O' (prv n j) j (nxt n j)).map flipS = curveQ X Y O (prv n (n - 1 - j)) (n - 1 - j) (nxt n (n - 1 - j))
      rw [← curve_flip]
      unfold curveQ endQ nxt prv
      rw [hX j hj, hY j hj, hO j hj, hX _ hm, hY _ hm, hO _ hm, hX _ hq, hY _ hq, hO _ hq, e1, e2]
    rw [e]
    exact (flat_map_perm (fun i => curveQ X Y O (prv n i) i (nxt n i)) n _ (rev_perm n)).symm
end Go.Proofs.Ytdbenpncnkfliaa
