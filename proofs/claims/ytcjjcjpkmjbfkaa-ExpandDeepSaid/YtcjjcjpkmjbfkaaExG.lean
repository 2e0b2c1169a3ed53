/-
  Layer 12: how many knots an outline of any size has; append where the row's place is told; parts as they read.
-/
import Derived.Test.YtcjjcjpkmjbfkaaExF
import Derived.Test.YtcjjcjpkmjbfkaaMhC
import Derived.Test.YtcjjcjpkmjbfkaaCoF
namespace Go.Proofs.Ytcjjcjpkmjbfkaa
open Go.RowKit Go.ChangeShapes Go.WideShapes Go.Deep
set_option linter.unusedVariables false
set_option linter.unusedSimpArgs false


set_option maxRecDepth 100000 in
set_option maxHeartbeats 8000000 in
theorem ou_knotsG (A : Option Addr) (c : Nat) (LL : List (List Kt)) (w : World) (h : RdOL w w.heap.size A LL) (hn : LL.length ≤ 1000000) (hm : ∀ L, L ∈ LL → L.length ≤ 1000000) :
    Calls Try.prog 34 #[.slice A LL.length c] w (KnotsOut w LL) := by
  obtain ⟨N, hN⟩ : ∃ N, N = LL.length := ⟨_, rfl⟩
  rw [← hN] at hn ⊢
  have HN := Lib.hid hN
  have HM := Lib.hid hm
  clear hN hm
  go_enter Try.func34, Try.ntmps34
  go_wp2_with fail
  go_loopw [3, 8] (fun v y wr => ∃ (j : Nat), j ≤ N ∧ y = .int .i64 (j : Int) ∧ v = .int .i64 ((sumL (LL.take j) : Nat) : Int) ∧ sumL (LL.take j) ≤ 1000000 * j ∧ Since w wr) (fun _ y _ => N - (intOf y).toNat)
  case atStart => exact ⟨0, by omega, rfl, rfl, by simp [sumL], Since.refl _⟩
  case round =>
    obtain ⟨j, hj, rfl, rfl, hs, hS⟩ := hrel
    by_cases hjn : j < N
    · have hjn' : (j : Int) < N := by omega
      have hL : LL[j]? = some (LL[j]'(by rw [← HN.out]; exact hjn)) := List.getElem?_eq_getElem _
      have hml := HM.out _ (List.mem_of_getElem? hL)
      generalize (LL[j]'(by rw [← HN.out]; exact hjn)) = L at *
      obtain ⟨b, o, A', c', rfl, hb, hcell, hK⟩ := h.row hL
      have hst := sum_take hL
      have HST := Lib.hid hst
      have c1 := (hS.1 _ _ hb).trans hcell
      have hbw := hS.2.2.1 _ hb
      generalize hll : L.length = n at *
      generalize sumL (LL.take j) = S at *
      have u1 : IntKind.i64.wrap ((S : Int) + (n : Int)) = (S : Int) + (n : Int) := IntWalk.i64_in _ (by omega)
      clear hL hst h hcell hK
      go_wp2_with fail
      go_roundw
      case rel => exact ⟨j + 1, by omega, by go_num, by rw [HST.out]; go_num, by rw [HST.out]; omega, hS⟩
      case measure => simp [intOf]; omega
    · obtain rfl : N = j := by omega
      have e : LL.take N = LL := by rw [HN.out]; exact List.take_length
      rw [e]
      go_wp2_with fail
      go_ret
      exact ⟨rfl, hS⟩

set_option maxRecDepth 100000 in
set_option maxHeartbeats 8000000 in
theorem rf_knotsG (A : Option Addr) (c : Nat) (LL : List (List Kt)) (w : World) (h : RdOL w w.heap.size A LL) (hn : LL.length ≤ 1000000) (hm : ∀ L, L ∈ LL → L.length ≤ 1000000) :
    Calls Try.prog 40 #[.slice A LL.length c] w (KnotsOut w LL) := by
  obtain ⟨N, hN⟩ : ∃ N, N = LL.length := ⟨_, rfl⟩
  rw [← hN] at hn ⊢
  have HN := Lib.hid hN
  have HM := Lib.hid hm
  clear hN hm
  go_enter Try.func40, Try.ntmps40
  go_wp2_with fail
  go_loopw [3, 8] (fun v y wr => ∃ (j : Nat), j ≤ N ∧ y = .int .i64 (j : Int) ∧ v = .int .i64 ((sumL (LL.take j) : Nat) : Int) ∧ sumL (LL.take j) ≤ 1000000 * j ∧ Since w wr) (fun _ y _ => N - (intOf y).toNat)
  case atStart => exact ⟨0, by omega, rfl, rfl, by simp [sumL], Since.refl _⟩
  case round =>
    obtain ⟨j, hj, rfl, rfl, hs, hS⟩ := hrel
    by_cases hjn : j < N
    · have hjn' : (j : Int) < N := by omega
      have hL : LL[j]? = some (LL[j]'(by rw [← HN.out]; exact hjn)) := List.getElem?_eq_getElem _
      have hml := HM.out _ (List.mem_of_getElem? hL)
      generalize (LL[j]'(by rw [← HN.out]; exact hjn)) = L at *
      obtain ⟨b, o, A', c', rfl, hb, hcell, hK⟩ := h.row hL
      have hst := sum_take hL
      have HST := Lib.hid hst
      have c1 := (hS.1 _ _ hb).trans hcell
      have hbw := hS.2.2.1 _ hb
      generalize hll : L.length = n at *
      generalize sumL (LL.take j) = S at *
      have u1 : IntKind.i64.wrap ((S : Int) + (n : Int)) = (S : Int) + (n : Int) := IntWalk.i64_in _ (by omega)
      clear hL hst h hcell hK
      go_wp2_with fail
      go_roundw
      case rel => exact ⟨j + 1, by omega, by go_num, by rw [HST.out]; go_num, by rw [HST.out]; omega, hS⟩
      case measure => simp [intOf]; omega
    · obtain rfl : N = j := by omega
      have e : LL.take N = LL := by rw [HN.out]; exact List.take_length
      rw [e]
      go_wp2_with fail
      go_ret
      exact ⟨rfl, hS⟩

/-- append of a contour to an outline; where its row lies then. -/
theorem wpList_append_oc {w : World} {ops : Array Oper} {rest : List Oper} {o : Oper} {a : Act} {Q : Exit → Act → World → Prop} (hgd : o.guard = none) (s x : Operand)
    (ho : o.op = .call { callee := .builtin .append, args := #[s, x], argTypes := #[28, 28] })
    (base : Nat) (v : Value) (LL : List (List Kt)) (hs : a.eval s = v) (hown : OwnO w base v LL) (b c : Nat) (A' : Option Addr) (n' c' : Nat) (L : List Kt) (hx : a.eval x = .slice (some ⟨b, 0, none⟩) 1 c) (ty : TypeId) (hb : b = w.heap.size) (hrow : OwnK w base (.slice A' n' c') L) (hL : LL.length ≤ 1000000) (hbase : base ≤ w.heap.size)
    (h : ∀ v' w', OwnO w' base v' (LL ++ [L]) → (w.alloc (.cells #[.slice A' n' c'] ty)).grownBy w' v.ownBlock → (∀ q, v.ownBlock = some q → base ≤ q ∧ q < w.heap.size) → (v'.ownBlock = v.ownBlock ∨ v'.ownBlock = some (w.heap.size + 1)) → wpList Try.prog ops Q rest (a.put o.dst v') w') :
    wpList Try.prog ops Q (o :: rest) a (w.alloc (.cells #[.slice A' n' c'] ty)) := by
  obtain ⟨hh, hl, ho', hK⟩ := hown
  refine wpList_append_w hgd s x 28 28 64 64 ho (by omega) hdL_len hdL_one 24 Try.underlying28 Try.underlying28 infoCt base v hh hs (ho'.alloc _) _ _ c [⟨A', n', c'⟩] hx (hd_one w b hb ty ⟨A', n', c'⟩) (by simp only [List.length_cons, List.length_nil]; omega) (by simp only [List.length_cons, List.length_nil, maxLen]; omega) (by simp; omega) (fun v' w' h9 hg hq hv => h v' w' ?_ hg (fun q e => ho'.lt e) (by simpa using hv))
  exact OwnO.snoc (w := w.alloc (.cells #[.slice A' n' c'] ty)) ⟨hh, hl, ho'.alloc _, fun j x M h1 h2 => (hK j x M h1 h2).alloc _⟩ (hrow.alloc _) hl (ho'.alloc _) (fun j x M h1 h2 => (hK j x M h1 h2).alloc _) h9 hg
/-- A part's cells, beside a box of three cells. -/
theorem part_at {w : World} {B q : Nat} {F : Nat → Value} {A : Option Addr} {Ps : List Pt8} (h : RdP8 w B A Ps) (hq : BoxX w q F) {i : Nat} {P : Pt8} (hP : Ps[i]? = some P) : ∃ b o, A = some ⟨b, o, none⟩ ∧ b < B ∧ b ≠ q ∧ w.cell? ⟨b, o + i * 7, none⟩ = some (.int .i64 P.g) ∧ w.cell? ⟨b, o + i * 7 + 1, none⟩ = some (.int .i64 P.x) ∧ w.cell? ⟨b, o + i * 7 + 2, none⟩ = some (.int .i64 P.y) ∧ w.cell? ⟨b, o + i * 7 + 3, none⟩ = some (.int .i64 P.m0) ∧ w.cell? ⟨b, o + i * 7 + 4, none⟩ = some (.int .i64 P.m1) ∧ w.cell? ⟨b, o + i * 7 + 5, none⟩ = some (.int .i64 P.m2) ∧ w.cell? ⟨b, o + i * 7 + 6, none⟩ = some (.int .i64 P.m3) := by
  have hi : i < Ps.length := by
    rcases Nat.lt_or_ge i Ps.length with h | h
    · exact h
    · rw [List.getElem?_eq_none h] at hP; cases hP
  obtain ⟨b, o, rfl, hb, hc⟩ := h (by omega)
  have c := fun j (hj : j < 7) => hc i P hP j hj
  have c6 := c 6 (by omega)
  refine ⟨b, o, rfl, hb, fun e => ?_, by have h0 := c 0 (by omega); rw [Nat.add_zero] at h0; exact h0, c 1 (by omega), c 2 (by omega), c 3 (by omega), c 4 (by omega), c 5 (by omega), c6⟩
  subst e
  have h2 := hq.2 (o + i * 7 + 6) (by omega)
  rw [h2] at c6
  cases c6
/-- Parts one by one. -/
theorem parts_err {step : Int → Nat → St12} {P : Pt8} {r : List Pt8} {O : List (List Kt)} {v : Nat} (h : (step P.g v).e ≠ 0) : parts12 step (P :: r) O v = ⟨[], (step P.g v).v, (step P.g v).e⟩ := by
  rw [parts12, if_pos h]
theorem parts_good {step : Int → Nat → St12} {P : Pt8} {r : List Pt8} {O : List (List Kt)} {v : Nat} (h : (step P.g v).e = 0) (hg : goodO P (step P.g v).LL = true) : parts12 step (P :: r) O v = parts12 step r (O ++ (step P.g v).LL.map (List.map (mvK P))) (step P.g v).v := by
  rw [parts12, if_neg (by omega), if_pos hg]
theorem parts_far {step : Int → Nat → St12} {P : Pt8} {r : List Pt8} {O : List (List Kt)} {v : Nat} (h : (step P.g v).e = 0) (hg : goodO P (step P.g v).LL = false) : (parts12 step (P :: r) O v).e = 6 := by
  rw [parts12, if_neg (by omega), if_neg (by rw [hg]; simp)]
end Go.Proofs.Ytcjjcjpkmjbfkaa
