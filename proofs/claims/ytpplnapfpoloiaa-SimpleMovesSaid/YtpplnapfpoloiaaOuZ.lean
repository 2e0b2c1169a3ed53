/-
  The reference's 'Copy' of outlines, walked.
-/
import Derived.Test.YtpplnapfpoloiaaKitO
namespace Go.Proofs.Ytpplnapfpoloiaa
open Go.RowKit Go.ChangeShapes Go.WideShapes Go.Deep
set_option linter.unusedVariables false

theorem hd_one (w : World) (b : Nat) (hb : b = w.heap.size) (ty : TypeId) (h : Hd) : RdG 1 hdL (w.alloc (.cells #[.slice h.A h.n h.c] ty)) (w.alloc (.cells #[.slice h.A h.n h.c] ty)).heap.size (some ⟨b, 0, none⟩) [h] :=
  rdG_one hb h (fun i hi => by
    obtain rfl : i = 0 := by omega
    rfl)
/-- append of one contour to an outline's own headers. -/
theorem wpList_append_hd {w : World} {ops : Array Oper} {rest : List Oper} {o : Oper} {a : Act} {Q : Exit → Act → World → Prop} (hgd : o.guard = none) (s x : Operand)
    (ho : o.op = .call { callee := .builtin .append, args := #[s, x], argTypes := #[50, 50] })
    (base : Nat) (v : Value) (LL : List (List Kt)) (hs : a.eval s = v) (hown : OwnO w base v LL) (b c : Nat) (A' : Option Addr) (n' c' : Nat) (L : List Kt) (hx : a.eval x = .slice (some ⟨b, 0, none⟩) 1 c) (ty : TypeId) (hb : b = w.heap.size) (hrow : OwnK w base (.slice A' n' c') L) (hL : LL.length ≤ 1000000) (hbase : base ≤ w.heap.size)
    (h : ∀ v' w', OwnO w' base v' (LL ++ [L]) → (w.alloc (.cells #[.slice A' n' c'] ty)).grownBy w' v.ownBlock → (∀ q, v.ownBlock = some q → base ≤ q ∧ q < w.heap.size) → wpList Try.prog ops Q rest (a.put o.dst v') w') :
    wpList Try.prog ops Q (o :: rest) a (w.alloc (.cells #[.slice A' n' c'] ty)) := by
  obtain ⟨hh, hl, ho', hK⟩ := hown
  refine wpList_append_g hgd s x 50 71 ho (by omega) hdL_len hdL_one 24 Try.underlying50 infoCt base v hh hs (ho'.alloc _) _ _ c [⟨A', n', c'⟩] hx (hd_one w b hb ty ⟨A', n', c'⟩) (by simp only [List.length_cons, List.length_nil]; omega) (by simp only [List.length_cons, List.length_nil, maxLen]; omega) (by simp; omega) (fun v' w' h9 hg hq => h v' w' ?_ hg (fun q e => ho'.lt e))
  exact OwnO.snoc (w := w.alloc (.cells #[.slice A' n' c'] ty)) ⟨hh, hl, ho'.alloc _, fun j x M h1 h2 => (hK j x M h1 h2).alloc _⟩ (hrow.alloc _) hl (ho'.alloc _) (fun j x M h1 h2 => (hK j x M h1 h2).alloc _) h9 hg
set_option maxRecDepth 100000 in
set_option maxHeartbeats 8000000 in
theorem rf_copy (A : Option Addr) (c : Nat) (LL : List (List Kt)) (w : World) (h : RdOL w w.heap.size A LL) (hn : LL.length ≤ 1000000) (hm : ∀ L, L ∈ LL → L.length ≤ 1000000) :
    Calls Try.prog 37 #[.slice A LL.length c] w fun e w' => ∃ A' c', e = .returned (.slice A' LL.length c') ∧ RdOL w' w'.heap.size A' LL ∧ Since w w' := by
  obtain ⟨N, hN⟩ : ∃ N, N = LL.length := ⟨_, rfl⟩
  rw [← hN] at hn ⊢
  have HN := Lib.hid hN
  have HM := Lib.hid hm
  clear hN hm
  go_enter Try.func37, Try.ntmps37
  go_wp2_with fail
  go_loopw [3, 8] (fun v y wr => ∃ (j : Nat), j ≤ N ∧ y = .int .i64 (j : Int) ∧ OwnO wr w.heap.size v (LL.take j) ∧ Since w wr) (fun _ y _ => N - (intOf y).toNat)
  case atStart => exact ⟨0, by omega, rfl, OwnO.nil _ _, Since.refl _⟩
  case round =>
    obtain ⟨j, hj, rfl, hO, hS⟩ := hrel
    by_cases hjn : j < N
    · have hjn' : (j : Int) < N := by omega
      have hjL : j < LL.length := by rw [← HN.out]; exact hjn
      have hL : LL[j]? = some LL[j] := List.getElem?_eq_getElem hjL
      have hml := HM.out _ (List.mem_of_getElem? hL)
      have htk : LL.take (j + 1) = LL.take j ++ [LL[j]] := List.take_succ_eq_append_getElem hjL
      have HTK := Lib.hid htk
      have hlt : (LL.take j).length ≤ 1000000 := by rw [List.length_take]; omega
      clear htk
      generalize LL[j] = L at *
      obtain ⟨b, o, A', c', rfl, hb, hcell, hK⟩ := h.row hL
      have c1 := (hS.1 _ _ hb).trans hcell
      have hbw := hS.2.2.1 _ hb
      have hK := (hK.since (Nat.le_refl _) hS).more hS.below.size
      have hwz := hS.below.size
      clear hL h hcell hjL
      generalize LL.take j = LJ at *
      go_wp2_with (first | (at_builtin; refine wpList_append_g rfl (.tmp 13) (.tmp 14) 71 76 rfl (by omega) knL_len knL_one 24 Try.underlying71 infoKn w.heap.size _ [] rfl (OwnG.empty _ wr w.heap.size _ rfl hwz) _ A' c' L rfl (hK.on ((Since.refl wr).alloc _)) ?_ ?_ ?_ ?_; (focus (rw [List.length_nil]; omega)); (focus (rw [List.length_nil]; simp only [maxLen]; omega)); (focus (simp; omega)); intro v7 w7 hO7 hg7 hb7; have hS7 : Since wr w7 := (since_grown ((Since.refl wr).alloc _) hg7 (fun q hq => Nat.le_of_eq (Option.some.inj hq))); rw [List.nil_append] at hO7; obtain ⟨A7, c7, rfl, hc7, hr7⟩ := hO7.rd (by omega) knL_len; have hOO := hO.since hS7; have hwz7 := hS7.below.size; clear hr7 hg7 hb7) | (at_builtin; refine wpList_append_hd rfl _ _ rfl w.heap.size _ LJ rfl hOO _ 1 A7 L.length c7 L rfl _ rfl hO7 hlt (by omega) ?_; intro v8 w8 hO8 hg8 hb8; have hS8 : Since w w8 := (since_grown ((hS.trans hS7).alloc _) hg8 (fun q hq => (hb8 q hq).1))))
      go_roundw
      case rel => exact ⟨j + 1, by omega, by go_num, by rw [HTK.out]; exact hO8, hS8⟩
      case measure => simp [intOf]; omega
    · obtain rfl : N = j := by omega
      have e : LL.take N = LL := by rw [HN.out]; exact List.take_length
      rw [e] at hO
      obtain ⟨A', c', rfl, hc', hr⟩ := hO.rd
      rw [← HN.out]
      go_wp2_with fail
      go_ret
      exact ⟨A', c', rfl, hr, hS⟩
end Go.Proofs.Ytpplnapfpoloiaa
