/-
  Texts of this seat, put together: each with its own head.
-/
import Derived.Test.YtcjjcjpkmjbfkaaMhC
import Derived.Test.YtcjjcjpkmjbfkaaMhD

/-
  The reference's 'Copy' of outlines, walked.
-/
namespace Go.Proofs.Ytcjjcjpkmjbfkaa
open Go.RowKit Go.ChangeShapes Go.WideShapes Go.Deep
set_option linter.unusedVariables false

theorem hd_one (w : World) (b : Nat) (hb : b = w.heap.size) (ty : TypeId) (h : Hd) : RdG 1 hdL (w.alloc (.cells #[.slice h.A h.n h.c] ty)) (w.alloc (.cells #[.slice h.A h.n h.c] ty)).heap.size (some ⟨b, 0, none⟩) [h] :=
  rdG_one hb h (fun i hi => by
    obtain rfl : i = 0 := by omega
    rfl)
/-- append of one contour to an outline's own headers. -/
theorem wpList_append_hd {w : World} {ops : Array Oper} {rest : List Oper} {o : Oper} {a : Act} {Q : Exit → Act → World → Prop} (hgd : o.guard = none) (s x : Operand)
    (ho : o.op = .call { callee := .builtin .append, args := #[s, x], argTypes := #[28, 28] })
    (base : Nat) (v : Value) (LL : List (List Kt)) (hs : a.eval s = v) (hown : OwnO w base v LL) (b c : Nat) (A' : Option Addr) (n' c' : Nat) (L : List Kt) (hx : a.eval x = .slice (some ⟨b, 0, none⟩) 1 c) (ty : TypeId) (hb : b = w.heap.size) (hrow : OwnK w base (.slice A' n' c') L) (hL : LL.length ≤ 1000000) (hbase : base ≤ w.heap.size)
    (h : ∀ v' w', OwnO w' base v' (LL ++ [L]) → (w.alloc (.cells #[.slice A' n' c'] ty)).grownBy w' v.ownBlock → (∀ q, v.ownBlock = some q → base ≤ q ∧ q < w.heap.size) → wpList Try.prog ops Q rest (a.put o.dst v') w') :
    wpList Try.prog ops Q (o :: rest) a (w.alloc (.cells #[.slice A' n' c'] ty)) := by
  obtain ⟨hh, hl, ho', hK⟩ := hown
  refine wpList_append_g hgd s x 28 64 ho (by omega) hdL_len hdL_one 24 Try.underlying28 infoCt base v hh hs (ho'.alloc _) _ _ c [⟨A', n', c'⟩] hx (hd_one w b hb ty ⟨A', n', c'⟩) (by simp only [List.length_cons, List.length_nil]; omega) (by simp only [List.length_cons, List.length_nil, maxLen]; omega) (by simp; omega) (fun v' w' h9 hg hq => h v' w' ?_ hg (fun q e => ho'.lt e))
  exact OwnO.snoc (w := w.alloc (.cells #[.slice A' n' c'] ty)) ⟨hh, hl, ho'.alloc _, fun j x M h1 h2 => (hK j x M h1 h2).alloc _⟩ (hrow.alloc _) hl (ho'.alloc _) (fun j x M h1 h2 => (hK j x M h1 h2).alloc _) h9 hg
end Go.Proofs.Ytcjjcjpkmjbfkaa

/-
  Layer 11: the reference's 'Lift', walked.
-/
namespace Go.Proofs.Ytcjjcjpkmjbfkaa
open Go.RowKit Go.ChangeShapes Go.WideShapes Go.Deep
set_option linter.unusedVariables false

theorem OwnG.lower {α : Type} {enc : α → List Value} {t : TypeId} {k base base' : Nat} {w : World} {v : Value} {L : List α} (h : OwnG t k enc w base v L) (hb : base' ≤ base) : OwnG t k enc w base' v L := by
  refine ⟨h.1, ?_⟩
  rcases h.2 with h0 | ⟨g, cap, cur, e1, hb', r⟩
  · exact .inl h0
  · exact .inr ⟨g, cap, cur, e1, by omega, r⟩
/-- What the reference's 'Lift' answers. -/
def RfLift (w : World) (LL : List (List Kt)) (e : Ending) (w' : World) : Prop :=
  (allIn LL ∧ ∃ A c, e = .returned (.tuple #[.slice A LL.length c, .int .i64 0]) ∧ RdOL w' w'.heap.size A (LL.map (List.map liftK)) ∧ Since w w') ∨ (¬ allIn LL ∧ e = .returned (.tuple #[.slice none 0 0, .int .i64 6]) ∧ Since w w')
set_option maxRecDepth 1000000 in
set_option maxHeartbeats 32000000 in
theorem rf_lift (A : Option Addr) (c : Nat) (LL : List (List Kt)) (w : World) (h : RdOL w w.heap.size A LL) (hn : LL.length ≤ 1000000) (hm : ∀ L, L ∈ LL → L.length ≤ 1000000) :
    Calls Try.prog 18 #[.slice A LL.length c] w (RfLift w LL) := by
  obtain ⟨N, hN⟩ : ∃ N, N = LL.length := ⟨_, rfl⟩
  rw [← hN] at hn ⊢
  have HN := Lib.hid hN
  have HM := Lib.hid hm
  clear hN hm
  go_enter Try.func18, Try.ntmps18
  go_wp2_with fail
  go_loopw [4, 12] (fun v y wr => ∃ (j : Nat), j ≤ N ∧ y = .int .i64 (j : Int) ∧ OwnO wr w.heap.size v ((LL.take j).map (List.map liftK)) ∧ Since w wr ∧ Hid (∀ (i : Nat) L, i < j → LL[i]? = some L → ∀ k, k ∈ L → inUnit k)) (fun _ y _ => N - (intOf y).toNat)
  case atStart => exact ⟨0, by omega, rfl, OwnO.nil _ _, Since.refl _, Lib.hid (fun i L hi => absurd hi (by omega))⟩
  case round =>
    obtain ⟨j, hj, rfl, hO, hS, HK⟩ := hrel
    by_cases hjn : j < N
    · have hjn' : (j : Int) < N := by omega
      have hjL : j < LL.length := by rw [← HN.out]; exact hjn
      have hL : LL[j]? = some LL[j] := List.getElem?_eq_getElem hjL
      have hml := HM.out _ (List.mem_of_getElem? hL)
      have htk : (LL.take (j + 1)).map (List.map liftK) = (LL.take j).map (List.map liftK) ++ [LL[j].map liftK] := by rw [List.take_succ_eq_append_getElem hjL, List.map_append]; rfl
      have HTK := Lib.hid htk
      have hlt : ((LL.take j).map (List.map liftK)).length ≤ 1000000 := by rw [List.length_map, List.length_take]; omega
      have HLJ := Lib.hid hL
      clear htk
      generalize LL[j] = L at *
      obtain ⟨b, o, A', c', rfl, hb, hcell, hK⟩ := h.row hL
      have c1 := (hS.1 _ _ hb).trans hcell
      have hbw1 := hS.2.2.1 _ hb
      have hwz := hS.below.size
      obtain ⟨n, hnl⟩ : ∃ n, n = L.length := ⟨_, rfl⟩
      rw [← hnl] at hml c1
      have HNL := Lib.hid hnl
      have HLT := Lib.hid hlt
      clear hL h hcell hjL hnl hlt
      generalize (LL.take j).map (List.map liftK) = LJ at *
      obtain ⟨bs, hbs⟩ : ∃ bs, bs = wr.heap.size := ⟨_, rfl⟩
      have hbs1 : wr.heap.size ≤ bs := by omega
      have hbs2 : bs ≤ wr.heap.size := by omega
      clear hbs
      go_wp2_with fail
      go_loopw [7, 18] (fun v y wr' => ∃ k : Nat, k ≤ n ∧ y = .int .i64 (k : Int) ∧ OwnK wr' bs v ((L.take k).map liftK) ∧ Since wr wr' ∧ Hid (∀ (t : Nat) K, t < k → L[t]? = some K → inUnit K)) (fun _ y _ => n - (intOf y).toNat)
      case atStart => exact ⟨0, by omega, rfl, OwnG.nil _ _ _ _ _, Since.refl _, Lib.hid (fun t K ht => absurd ht (by omega))⟩
      case round =>
        obtain ⟨k, hk, rfl, hOk, hSr, HU⟩ := hrel
        by_cases hkn : k < n
        · have hkn' : (k : Int) < n := by omega
          have hkl : k < L.length := by rw [← HNL.out]; exact hkn
          have hkL : L[k]? = some L[k] := List.getElem?_eq_getElem hkl
          have hfill : (L.take (k + 1)).map liftK = (L.take k).map liftK ++ [liftK L[k]] := by rw [List.take_succ_eq_append_getElem hkl, List.map_append]; rfl
          have hol : ((L.take k).map liftK).length ≤ 1000000 := by rw [List.length_map, List.length_take]; omega
          obtain ⟨bk, ok, rfl, hbk, hck⟩ := hK (by omega)
          have hSw := hS.trans hSr
          have c1 := (hSw.1 _ _ hbk).trans (hck k _ hkL 0 (by omega))
          have c2 := (hSw.1 _ _ hbk).trans (hck k _ hkL 1 (by omega))
          have c3 := (hSw.1 _ _ hbk).trans (hck k _ hkL 2 (by omega))
          have hbw2 := hSw.2.2.1 _ hbk
          have HF := Lib.hid hfill
          have HKL := Lib.hid hkL
          have HOL := Lib.hid hol
          clear hfill hkL hck hK hol
          generalize L[k] = K at *
          obtain ⟨x, y, o⟩ := K
          simp only [knL, List.getD_cons_succ, List.getD_cons_zero, Nat.add_zero] at c1 c2 c3
          go_upto_region 9 with fail
          refine wp_named fun w6 hw6 => ?_
          have rT : Row w6 (wr.heap.size) 3 (Kf x y o) := by subst hw6; exact krow wr _ rfl _ _ _ _
          have hS6 : Since wr w6 := by subst hw6; (repeat (first | with_reducible (exact Since.refl _) | with_reducible assumption | with_reducible (refine Since.drew ?_) | with_reducible (refine Since.drewN ?_ _) | with_reducible (refine Since.alloc ?_ _) | (with_reducible (refine Since.setCell ?_ ?_ _); rotate_left; focus (first | (simp; done) | (simp; omega) | omega)) | (with_reducible (refine Since.trans ?_ (by with_reducible assumption)))))
          clear hw6 c1 c2 c3 hbw2
          have hbz : bs ≤ w6.heap.size := Nat.le_trans hbs2 (Nat.le_trans hSr.below.size hS6.below.size)
          have hOk := OwnG.since hOk hS6
          have hSr := hSr.trans hS6
          generalize wr.heap.size = tb at *
          obtain ⟨t1, t2, t3, t4⟩ := kcells rT
          by_cases hin : inUnit ⟨x, y, o⟩
          · obtain ⟨v1, v2, v3, v4⟩ := hin
            simp only at v1 v2 v3 v4
            have d1 : decide (x < (-32768 : Int)) = false := by simp; omega
            have d2 : decide ((32767 : Int) < x) = false := by simp; omega
            have d3 : decide (y < (-32768 : Int)) = false := by simp; omega
            have d4 : decide ((32767 : Int) < y) = false := by simp; omega
            have u1 : IntKind.i64.wrap (64 * x) = 64 * x := IntWalk.i64_in _ (by omega)
            have u2 : IntKind.i64.wrap (64 * y) = 64 * y := IntWalk.i64_in _ (by omega)
            have hnext : Hid (∀ (t : Nat) K, t < k + 1 → L[t]? = some K → inUnit K) := Lib.hid (fun t K ht hK => by
              by_cases e : t = k
              · subst e
                rw [HKL.out] at hK
                injection hK with hK
                rw [← hK]
                exact ⟨v1, v2, v3, v4⟩
              · exact HU.out t K (by omega) hK)
            clear v1 v2 v3 v4
            go_wp2_with (at_builtin; refine wpList_append_g rfl _ _ 64 62 rfl (by omega) knL_len knL_one 24 Try.underlying64 infoKn bs _ _ rfl (OwnG.alloc hOk _) _ _ 1 [⟨64 * x, 64 * y, o⟩] rfl (kn_one w6 _ rfl _ ⟨64 * x, 64 * y, o⟩) ?_ ?_ ?_ ?_; (focus (have := HOL.out; simp only [List.length_cons, List.length_nil]; omega)); (focus (have := HOL.out; simp only [List.length_cons, List.length_nil, maxLen]; omega)); (focus (simp; omega)); intro v7 w7 hO7 hg7 hb7)
            go_roundw
            case rel => exact ⟨k + 1, by omega, by go_num, by rw [HF.out]; exact hO7, since_grown (hSr.alloc _) hg7 (fun q hq => Nat.le_trans hbs1 (hb7 q hq).1), hnext⟩
            case measure => simp [intOf]; omega
          · have hout : ¬ allIn LL := fun ha => hin (ha L (List.mem_of_getElem? HLJ.out) _ (List.mem_of_getElem? HKL.out))
            have HOUT := Lib.hid hout
            have hd : x < -32768 ∨ 32767 < x ∨ y < -32768 ∨ 32767 < y := by
              unfold inUnit at hin
              simp only at hin
              omega
            clear hin hout
            by_cases h1 : x < -32768
            · have d1 : decide (x < (-32768 : Int)) = true := by simp; omega
              go_wp2_with fail
              refine bodyPost_ret (v := .tuple #[.slice none 0 0, .int .i64 6]) (by simp only [results, Try.results18]; go_simp) rfl ?_
              exact .inr ⟨HOUT.out, rfl, hS.trans hSr⟩
            · have d1 : decide (x < (-32768 : Int)) = false := by simp; omega
              by_cases h2 : 32767 < x
              · have d2 : decide ((32767 : Int) < x) = true := by simp; omega
                go_wp2_with fail
                refine bodyPost_ret (v := .tuple #[.slice none 0 0, .int .i64 6]) (by simp only [results, Try.results18]; go_simp) rfl ?_
                exact .inr ⟨HOUT.out, rfl, hS.trans hSr⟩
              · have d2 : decide ((32767 : Int) < x) = false := by simp; omega
                by_cases h3 : y < -32768
                · have d3 : decide (y < (-32768 : Int)) = true := by simp; omega
                  go_wp2_with fail
                  refine bodyPost_ret (v := .tuple #[.slice none 0 0, .int .i64 6]) (by simp only [results, Try.results18]; go_simp) rfl ?_
                  exact .inr ⟨HOUT.out, rfl, hS.trans hSr⟩
                · have d3 : decide (y < (-32768 : Int)) = false := by simp; omega
                  have d4 : decide ((32767 : Int) < y) = true := by simp; omega
                  go_wp2_with fail
                  refine bodyPost_ret (v := .tuple #[.slice none 0 0, .int .i64 6]) (by simp only [results, Try.results18]; go_simp) rfl ?_
                  exact .inr ⟨HOUT.out, rfl, hS.trans hSr⟩
        · obtain rfl : n = k := by omega
          have e : (L.take n).map liftK = L.map liftK := by rw [HNL.out, List.take_length]
          rw [e] at hOk
          have hOO := hO.since hSr
          have hall : Hid (∀ (i : Nat) M, i < j + 1 → LL[i]? = some M → ∀ k, k ∈ M → inUnit k) := Lib.hid (fun i M hi h2 => by
            by_cases e : i = j
            · subst e
              rw [HLJ.out] at h2
              injection h2 with h2
              subst h2
              intro K hK
              obtain ⟨t, ht, hg⟩ := List.getElem_of_mem hK
              exact HU.out t K (by rw [HNL.out]; exact ht) (by rw [List.getElem?_eq_getElem ht, hg])
            · exact HK.out i M (by omega) h2)
          have hz8 : w.heap.size ≤ wr.heap.size := (hS.trans hSr).below.size
          have hlow : w.heap.size ≤ bs := by omega
          obtain ⟨A7, c7, rfl, _, _⟩ := OwnG.rd (by omega) knL_len hOk
          rw [List.length_map] at hOk ⊢
          go_wp2_with (at_builtin; refine wpList_append_hd rfl _ _ rfl w.heap.size _ LJ rfl hOO _ 1 A7 L.length c7 (L.map liftK) rfl _ rfl (OwnG.lower hOk hlow) HLT.out hz8 ?_; intro v8 w8 hO8 hg8 hb8; have hS8 : Since w w8 := (since_grown ((hS.trans hSr).alloc _) hg8 (fun q hq => (hb8 q hq).1)))
          go_roundw
          case rel => exact ⟨j + 1, by omega, by go_num, by rw [HTK.out]; exact hO8, hS8, hall⟩
          case measure => simp [intOf]; omega
    · obtain rfl : N = j := by omega
      have hall : allIn LL := fun L hL => by
        obtain ⟨i, hi, hg⟩ := List.getElem_of_mem hL
        exact HK.out i L (by rw [HN.out]; exact hi) (by rw [List.getElem?_eq_getElem hi, hg])
      have HALL := Lib.hid hall
      have e : LL.take N = LL := by rw [HN.out]; exact List.take_length
      rw [e] at hO
      obtain ⟨A', c', rfl, hc', hr⟩ := hO.rd
      rw [List.length_map, ← HN.out]
      clear hall
      go_wp2_with fail
      refine bodyPost_ret (v := .tuple #[.slice A' N c', .int .i64 0]) (by simp only [results, Try.results18]; go_simp) rfl ?_
      exact .inl ⟨HALL.out, A', c', by rw [← HN.out], hr, hS⟩
end Go.Proofs.Ytcjjcjpkmjbfkaa

/-
  Layer 11: the reference's 'Flip', both 'Knots', walked.
-/
namespace Go.Proofs.Ytcjjcjpkmjbfkaa
open Go.RowKit Go.ChangeShapes Go.WideShapes Go.Deep
set_option linter.unusedVariables false

/-- How many knots an outline has. -/
def KnotsOut (w : World) (LL : List (List Kt)) (e : Ending) (w' : World) : Prop := e = .returned (.int .i64 ((sumL LL : Nat) : Int)) ∧ Since w w'

set_option maxRecDepth 100000 in
set_option maxHeartbeats 8000000 in
theorem ou_knots (A : Option Addr) (c : Nat) (LL : List (List Kt)) (w : World) (h : RdOL w w.heap.size A LL) (hn : LL.length ≤ 600) (hm : ∀ L, L ∈ LL → L.length ≤ 5000) :
    Calls Try.prog 34 #[.slice A LL.length c] w (KnotsOut w LL) := by
  obtain ⟨N, hN⟩ : ∃ N, N = LL.length := ⟨_, rfl⟩
  rw [← hN] at hn ⊢
  have HN := Lib.hid hN
  have HM := Lib.hid hm
  clear hN hm
  go_enter Try.func34, Try.ntmps34
  go_wp2_with fail
  go_loopw [3, 8] (fun v y wr => ∃ (j : Nat), j ≤ N ∧ y = .int .i64 (j : Int) ∧ v = .int .i64 ((sumL (LL.take j) : Nat) : Int) ∧ sumL (LL.take j) ≤ 5000 * j ∧ Since w wr) (fun _ y _ => N - (intOf y).toNat)
  case atStart => exact ⟨0, by omega, rfl, rfl, by simp [sumL], Since.refl _⟩
  case round =>
    obtain ⟨j, hj, rfl, rfl, hs, hS⟩ := hrel
    by_cases hjn : j < N
    · have hjn' : (j : Int) < N := by omega
      have hL : LL[j]? = some (LL[j]'(by rw [← HN.out]; exact hjn)) := List.getElem?_eq_getElem _
      have hml := HM.out _ (List.mem_of_getElem? hL)
      generalize (LL[j]'(by rw [← HN.out]; exact hjn)) = L at *
      obtain ⟨b, o, A', c', rfl, hb, hcell, hK⟩ := h.row hL
      have hst := sum_take hL
      have HST := Lib.hid hst
      have c1 := (hS.1 _ _ hb).trans hcell
      have hbw := hS.2.2.1 _ hb
      generalize hll : L.length = n at *
      generalize sumL (LL.take j) = S at *
      have u1 : IntKind.i64.wrap ((S : Int) + (n : Int)) = (S : Int) + (n : Int) := IntWalk.i64_in _ (by omega)
      clear hL hst h hcell hK
      go_wp2_with fail
      go_roundw
      case rel => exact ⟨j + 1, by omega, by go_num, by rw [HST.out]; go_num, by rw [HST.out]; omega, hS⟩
      case measure => simp [intOf]; omega
    · obtain rfl : N = j := by omega
      have e : LL.take N = LL := by rw [HN.out]; exact List.take_length
      rw [e]
      go_wp2_with fail
      go_ret
      exact ⟨rfl, hS⟩

set_option maxRecDepth 100000 in
set_option maxHeartbeats 8000000 in
theorem rf_knots (A : Option Addr) (c : Nat) (LL : List (List Kt)) (w : World) (h : RdOL w w.heap.size A LL) (hn : LL.length ≤ 600) (hm : ∀ L, L ∈ LL → L.length ≤ 5000) :
    Calls Try.prog 40 #[.slice A LL.length c] w (KnotsOut w LL) := by
  obtain ⟨N, hN⟩ : ∃ N, N = LL.length := ⟨_, rfl⟩
  rw [← hN] at hn ⊢
  have HN := Lib.hid hN
  have HM := Lib.hid hm
  clear hN hm
  go_enter Try.func40, Try.ntmps40
  go_wp2_with fail
  go_loopw [3, 8] (fun v y wr => ∃ (j : Nat), j ≤ N ∧ y = .int .i64 (j : Int) ∧ v = .int .i64 ((sumL (LL.take j) : Nat) : Int) ∧ sumL (LL.take j) ≤ 5000 * j ∧ Since w wr) (fun _ y _ => N - (intOf y).toNat)
  case atStart => exact ⟨0, by omega, rfl, rfl, by simp [sumL], Since.refl _⟩
  case round =>
    obtain ⟨j, hj, rfl, rfl, hs, hS⟩ := hrel
    by_cases hjn : j < N
    · have hjn' : (j : Int) < N := by omega
      have hL : LL[j]? = some (LL[j]'(by rw [← HN.out]; exact hjn)) := List.getElem?_eq_getElem _
      have hml := HM.out _ (List.mem_of_getElem? hL)
      generalize (LL[j]'(by rw [← HN.out]; exact hjn)) = L at *
      obtain ⟨b, o, A', c', rfl, hb, hcell, hK⟩ := h.row hL
      have hst := sum_take hL
      have HST := Lib.hid hst
      have c1 := (hS.1 _ _ hb).trans hcell
      have hbw := hS.2.2.1 _ hb
      generalize hll : L.length = n at *
      generalize sumL (LL.take j) = S at *
      have u1 : IntKind.i64.wrap ((S : Int) + (n : Int)) = (S : Int) + (n : Int) := IntWalk.i64_in _ (by omega)
      clear hL hst h hcell hK
      go_wp2_with fail
      go_roundw
      case rel => exact ⟨j + 1, by omega, by go_num, by rw [HST.out]; go_num, by rw [HST.out]; omega, hS⟩
      case measure => simp [intOf]; omega
    · obtain rfl : N = j := by omega
      have e : LL.take N = LL := by rw [HN.out]; exact List.take_length
      rw [e]
      go_wp2_with fail
      go_ret
      exact ⟨rfl, hS⟩

end Go.Proofs.Ytcjjcjpkmjbfkaa
