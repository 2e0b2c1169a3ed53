/-
  Layer 7: check, walked: why a glyph can't be written.
-/
import Derived.Test.YtpplnapfpoloiaaSiP
import Derived.Test.YtpplnapfpoloiaaOuY
namespace Go.Proofs.Ytpplnapfpoloiaa
open Go.RowKit Go.ChangeShapes Go.WideShapes Go.Deep
set_option linter.unusedVariables false
set_option linter.unusedSimpArgs false

/-- A block of a knot. -/
def Tri (w : World) (b : Nat) (x y : Int) (o : Bool) : Prop := w.cell? ⟨b, 0, none⟩ = some (.int .i64 x) ∧ w.cell? ⟨b, 1, none⟩ = some (.int .i64 y) ∧ w.cell? ⟨b, 2, none⟩ = some (.bool o) ∧ w.frozen? ⟨b, 0, none⟩ = false ∧ w.frozen? ⟨b, 1, none⟩ = false ∧ w.frozen? ⟨b, 2, none⟩ = false ∧ b < w.heap.size
theorem Tri.since {w w' : World} {b : Nat} {x y : Int} {o : Bool} (h : Tri w b x y o) (k : Since w w') : Tri w' b x y o := by
  obtain ⟨h1, h2, h3, h4, h5, h6, h7⟩ := h
  exact ⟨(k.1 _ _ h7).trans h1, (k.1 _ _ h7).trans h2, (k.1 _ _ h7).trans h3, (k.2.1 _ _ h7).trans h4, (k.2.1 _ _ h7).trans h5, (k.2.1 _ _ h7).trans h6, k.2.2.1 _ h7⟩
theorem tri_new (w : World) (b : Nat) (hb : b = w.heap.size) (x y : Int) (o : Bool) (t : TypeId) : Tri (w.alloc (.cells #[.int .i64 x, .int .i64 y, .bool o] t)) b x y o := by
  subst hb
  have h : Row (w.alloc (.cells #[.int .i64 x, .int .i64 y, .bool o] t)) w.heap.size 3 (fun j => if j = 0 then .int .i64 x else if j = 1 then .int .i64 y else .bool o) := Row.of_cells fun j hj => by
    have h : j = 0 ∨ j = 1 ∨ j = 2 := by omega
    rcases h with rfl | rfl | rfl <;> rfl
  exact ⟨h.1 0 (by omega), h.1 1 (by omega), h.1 2 (by omega), h.2.1 0, h.2.1 1, h.2.1 2, h.2.2⟩
theorem Tri.drew {w : World} {b : Nat} {x y : Int} {o : Bool} (h : Tri w b x y o) : Tri w.drew b x y o := h
theorem Tri.alloc {w : World} {b : Nat} {x y : Int} {o : Bool} (h : Tri w b x y o) (ob : Obj) : Tri (w.alloc ob) b x y o := h.since ((Since.refl w).alloc ob)
theorem Tri.put {w : World} {b : Nat} {x0 y0 : Int} {o0 : Bool} (h : Tri w b x0 y0 o0) (x y : Int) (o : Bool) : Tri (((w.setCell ⟨b, 0, none⟩ (.int .i64 x)).setCell ⟨b, 1, none⟩ (.int .i64 y)).setCell ⟨b, 2, none⟩ (.bool o)) b x y o := by
  obtain ⟨h1, h2, h3, h4, h5, h6, h7⟩ := h
  have F : ∀ j, w.frozen? ⟨b, j, none⟩ = false → (((w.setCell ⟨b, 0, none⟩ (.int .i64 x)).setCell ⟨b, 1, none⟩ (.int .i64 y)).setCell ⟨b, 2, none⟩ (.bool o)).frozen? ⟨b, j, none⟩ = false := fun j hj => (World.frozen?_setCell _ _ _ _).trans ((World.frozen?_setCell _ _ _ _).trans ((World.frozen?_setCell _ _ _ _).trans hj))
  refine ⟨?_, ?_, ?_, F 0 h4, F 1 h5, F 2 h6, by simpa [World.setCell] using h7⟩
  · rw [cell_set, if_neg (by omega), cell_set, if_neg (by omega), cell_set, if_pos ⟨rfl, rfl⟩, h1]; rfl
  · rw [cell_set, if_neg (by omega), cell_set, if_pos ⟨rfl, rfl⟩, cell_set, if_neg (by omega), h2]; rfl
  · rw [cell_set, if_pos ⟨rfl, rfl⟩, cell_set, if_neg (by omega), cell_set, if_neg (by omega), h3]; rfl
/-- The last knot so far. -/
def lastK (S : List Kt) : Kt := S.getLastD ⟨0, 0, false⟩
theorem lastK_snoc (S : List Kt) (k : Kt) : lastK (S ++ [k]) = k := by unfold lastK; simp
theorem getLastD_map' {α β : Type} (f : α → β) : ∀ (S : List α) (d : α), (S.map f).getLastD (f d) = f (S.getLastD d) := by
  intro S
  induction S with
  | nil => intro d; rfl
  | cons a S ih => intro d; rw [List.map_cons, List.getLastD_cons, List.getLastD_cons]; exact ih a
theorem lastK_x (S : List Kt) : (S.map Kt.x).getLastD 0 = (lastK S).x := getLastD_map' Kt.x S ⟨0, 0, false⟩
theorem lastK_y (S : List Kt) : (S.map Kt.y).getLastD 0 = (lastK S).y := getLastD_map' Kt.y S ⟨0, 0, false⟩
def OkK (S : List Kt) : Prop := StepsOk 0 (S.map Kt.x) ∧ StepsOk 0 (S.map Kt.y)
theorem okK_nil : OkK [] := ⟨trivial, trivial⟩
theorem okK_snoc (S : List Kt) (k : Kt) : OkK (S ++ [k]) ↔ OkK S ∧ (Sh k.x ∧ Sh k.y ∧ Sh (k.x - (lastK S).x) ∧ Sh (k.y - (lastK S).y)) := by
  unfold OkK
  rw [List.map_append, List.map_append, List.map_cons, List.map_cons, List.map_nil, List.map_nil, stepsOk_snoc, stepsOk_snoc, lastK_x, lastK_y]
  constructor
  · rintro ⟨⟨h1, h2, h3⟩, h4, h5, h6⟩; exact ⟨⟨h1, h4⟩, h3, h6, h2, h5⟩
  · rintro ⟨⟨h1, h4⟩, h3, h6, h2, h5⟩; exact ⟨⟨h1, h2, h3⟩, h4, h5, h6⟩
theorem stepsOk_left : ∀ (a b : List Int) (v : Int), StepsOk v (a ++ b) → StepsOk v a := by
  intro a
  induction a with
  | nil => intro b v _; trivial
  | cons x a ih => intro b v h; obtain ⟨h1, h2, h3⟩ := h; exact ⟨h1, h2, ih b x h3⟩
theorem okK_left {a b : List Kt} (h : OkK (a ++ b)) : OkK a := by
  unfold OkK at h ⊢
  rw [List.map_append, List.map_append] at h
  exact ⟨stepsOk_left _ _ _ h.1, stepsOk_left _ _ _ h.2⟩
theorem okK_last {S : List Kt} (h : OkK S) : Sh (lastK S).x ∧ Sh (lastK S).y := by
  rcases List.eq_nil_or_concat S with rfl | ⟨T, k, rfl⟩
  · exact ⟨by decide, by decide⟩
  · rw [List.concat_eq_append] at h ⊢
    rw [lastK_snoc]
    have := ((okK_snoc T k).1 h).2
    exact ⟨this.1, this.2.1⟩
theorem flat_pre {LL : List (List Kt)} {j k : Nat} {L : List Kt} (hL : LL[j]? = some L) : ∃ R, LL.flatten = ((LL.take j).flatten ++ L.take k) ++ R := by
  have hj : j < LL.length := by
    rcases Nat.lt_or_ge j LL.length with h | h
    · exact h
    · rw [List.getElem?_eq_none h] at hL; cases hL
  have e : LL[j] = L := by rw [List.getElem?_eq_getElem hj] at hL; injection hL
  refine ⟨L.drop k ++ (LL.drop (j + 1)).flatten, ?_⟩
  have h1 : LL = LL.take j ++ LL[j] :: LL.drop (j + 1) := by rw [← List.drop_eq_getElem_cons hj, List.take_append_drop]
  conv => lhs; rw [h1]
  rw [List.flatten_append, List.flatten_cons, e, ← List.append_assoc, ← List.append_assoc, List.append_assoc _ (L.take k), List.take_append_drop, List.append_assoc]
/-- Why an outline with so many bytes of a code can't be written. -/
def chkE (LL : List (List Kt)) (m : Nat) : Int := if 0 ∈ LL.map List.length then 4 else if 4096 < sumL LL ∨ 65535 < m then 7 else if StepsOk 0 (LL.flatten.map Kt.x) ∧ StepsOk 0 (LL.flatten.map Kt.y) then 0 else 6
def ChkPost (LL : List (List Kt)) (m : Nat) (w : World) (e : Ending) (w' : World) : Prop := e = .returned (.int .i64 (chkE LL m)) ∧ Since w w'
theorem chkpost {LL : List (List Kt)} {m : Nat} {w w' : World} {x : Int} (h : chkE LL m = x) (hS : Since w w') : ChkPost LL m w (.returned (.int .i64 x)) w' := ⟨by rw [h], hS⟩
theorem chk_bad {LL : List (List Kt)} {m j k : Nat} {L : List Kt} {x : Kt} (h0 : 0 ∉ LL.map List.length) (h1 : ¬ (4096 < sumL LL ∨ 65535 < m)) (hL : LL[j]? = some L) (hx : L[k]? = some x) (hbad : ¬ (Sh x.x ∧ Sh x.y ∧ Sh (x.x - (lastK ((LL.take j).flatten ++ L.take k)).x) ∧ Sh (x.y - (lastK ((LL.take j).flatten ++ L.take k)).y))) : chkE LL m = 6 := by
  unfold chkE
  rw [if_neg h0, if_neg h1, if_neg]
  intro h
  obtain ⟨R, hR⟩ := flat_pre (k := k + 1) hL
  have hk : k < L.length := by
    rcases Nat.lt_or_ge k L.length with h | h
    · exact h
    · rw [List.getElem?_eq_none h] at hx; cases hx
  have e : L[k] = x := by rw [List.getElem?_eq_getElem hk] at hx; injection hx
  rw [List.take_succ_eq_append_getElem hk, e, ← List.append_assoc] at hR
  have h2 : OkK LL.flatten := h
  rw [hR] at h2
  exact hbad ((okK_snoc _ _).1 (okK_left h2)).2
set_option maxRecDepth 1000000 in
set_option maxHeartbeats 32000000 in
theorem si_check (A : Option Addr) (c : Nat) (LL : List (List Kt)) (B : Option Addr) (m d : Nat) (w : World) (h : RdOL w w.heap.size A LL) (hn : LL.length ≤ 1000000) (hm : ∀ L, L ∈ LL → L.length ≤ 1000000) (hmm : m ≤ 140737488355328) :
    Calls Try.prog 81 #[.agg #[.slice A LL.length c, .slice B m d]] w (ChkPost LL m w) := by
  obtain ⟨N, hN⟩ : ∃ N, N = LL.length := ⟨_, rfl⟩
  rw [← hN] at hn ⊢
  have HN := Lib.hid hN
  have HM := Lib.hid hm
  have HO := Lib.hid h
  have hNI : (N : Int) ≤ 1000000 := by omega
  have hmI : (m : Int) ≤ 140737488355328 := by omega
  clear hN hm h
  go_enter Try.func81, Try.ntmps81
  go_wp2_with fail
  refine wp_named fun w0 hw0 => ?_
  have hG0 : Two w0 w.heap.size (.slice A N c) (.slice B m d) := by subst hw0; exact two_new w w.heap.size rfl _ _ _
  have hS0 : Since w w0 := by subst hw0; (repeat (first | with_reducible (exact Since.refl _) | with_reducible assumption | with_reducible (refine Since.drew ?_) | with_reducible (refine Since.drewN ?_ _) | with_reducible (refine Since.alloc ?_ _) | (with_reducible (refine Since.setCell ?_ ?_ _); rotate_left; focus (first | (simp; done) | (simp; omega) | omega)) | (with_reducible (refine Since.trans ?_ (by with_reducible assumption)))))
  clear hw0
  obtain ⟨gb, hgb⟩ : ∃ gb, gb = w.heap.size := ⟨_, rfl⟩
  rw [← hgb] at hG0 ⊢
  clear hgb
  go_loopw [3, 14] (fun v y wr => ∃ (j : Nat), j ≤ N ∧ y = .int .i64 (j : Int) ∧ v = .int .i64 ((sumL (LL.take j) : Nat) : Int) ∧ sumL (LL.take j) ≤ 1000000 * j ∧ Hid (∀ i L, i < j → LL[i]? = some L → L.length ≠ 0) ∧ wr = w0) (fun _ y _ => N - (intOf y).toNat)
  case atStart => exact ⟨0, by omega, rfl, by first | rfl | simp [sumL], by simp [sumL], Lib.hid (fun i L hi => absurd hi (by omega)), rfl⟩
  case round =>
    obtain ⟨j, hj, rfl, rfl, hs, HL, rfl⟩ := hrel
    by_cases hjn : j < N
    · have hjn' : (j : Int) < N := by omega
      have hL : LL[j]? = some (LL[j]'(by rw [← HN.out]; exact hjn)) := List.getElem?_eq_getElem _
      have hml := HM.out _ (List.mem_of_getElem? hL)
      generalize (LL[j]'(by rw [← HN.out]; exact hjn)) = L at *
      obtain ⟨b, o, A', c', rfl, hb, hcell, hK⟩ := HO.out.row hL
      have hst := sum_take hL
      have HLJ := Lib.hid hL
      have HST := Lib.hid hst
      have c1 := (hS0.1 _ _ hb).trans hcell
      have hbw := hS0.2.2.1 _ hb
      generalize hll : L.length = n at *
      have HLL := Lib.hid hll
      generalize sumL (LL.take j) = S at *
      clear hL hst hcell hK hll
      by_cases h5 : n = 0
      · have E := Lib.hid (show chkE LL m = 4 by
          unfold chkE; rw [if_pos]
          have := List.mem_map_of_mem (f := List.length) (List.mem_of_getElem? HLJ.out)
          rw [HLL.out, h5] at this; exact this)
        subst h5
        go_wp2_with fail
        go_ret
        exact chkpost E.out hS0
      · have d3 : ¬ (n : Int) = 0 := by omega
        have u1 : IntKind.i64.wrap ((S : Int) + (n : Int)) = (S : Int) + (n : Int) := IntWalk.i64_in _ (by omega)
        go_wp2_with fail
        go_roundw
        case rel =>
          refine ⟨j + 1, by omega, by go_num, by rw [HST.out]; go_num, by rw [HST.out]; omega, Lib.hid (fun i M hi hM => ?_), by first | rfl | trivial⟩
          by_cases e : i = j
          · subst e
            rw [HLJ.out] at hM
            injection hM with hM
            subst hM
            rw [HLL.out]; exact h5
          · exact HL.out i M (by omega) hM
        case measure => simp [intOf]; omega
    · obtain rfl : N = j := by omega
      have e : LL.take N = LL := by rw [HN.out]; exact List.take_length
      rw [e] at hs ⊢
      have H0 := Lib.hid (show 0 ∉ LL.map List.length from fun h => by
        obtain ⟨L, hL, hl⟩ := List.mem_map.1 h
        obtain ⟨i, hi, hg⟩ := List.getElem_of_mem hL
        exact HL.out i L (by rw [HN.out]; exact hi) (by rw [List.getElem?_eq_getElem hi, hg]) hl)
      obtain ⟨S, hS⟩ : ∃ S, S = sumL LL := ⟨_, rfl⟩
      rw [← hS] at hs ⊢
      have HS := Lib.hid hS
      obtain ⟨g0, g1, g2, g3, g4⟩ := id hG0
      clear e hS HL
      by_cases h7 : 4096 < S ∨ 65535 < m
      · have E := Lib.hid (show chkE LL m = 7 by unfold chkE; rw [if_neg H0.out, if_pos (by rw [← HS.out]; exact h7)])
        by_cases h8 : 4096 < S
        · have d3 : (4096 : Int) < (S : Int) := by omega
          go_wp2_with fail
          go_ret
          exact chkpost E.out hS0
        · have d3 : ¬ (4096 : Int) < (S : Int) := by omega
          have d4 : (65535 : Int) < (m : Int) := by omega
          go_wp2_with fail
          go_ret
          exact chkpost E.out hS0
      · have d3 : ¬ (4096 : Int) < (S : Int) := by omega
        have d4 : ¬ (65535 : Int) < (m : Int) := by omega
        have H7 := Lib.hid (show ¬ (4096 < sumL LL ∨ 65535 < m) by rw [← HS.out]; exact h7)
        clear h7
        go_wp2_with fail
        refine wp_named fun wl hwl => ?_
        obtain ⟨lb, hlb⟩ : ∃ lb, lb = wr.heap.size := ⟨_, rfl⟩
        rw [← hlb]
        have hLl : Tri wl lb 0 0 false := by
          subst hwl
          exact tri_new wr lb hlb 0 0 false _
        have hlw : w.heap.size ≤ lb := by have := hS0.below.size; omega
        have hSl : Since w wl := by subst hwl; exact hS0.alloc _
        clear hwl hlb g0 g1 g2 g3 g4 hG0
        go_loopw [38] (fun y wq => ∃ (j : Nat), j ≤ N ∧ y = .int .i64 (j : Int) ∧ (∃ o, Tri wq lb (lastK (LL.take j).flatten).x (lastK (LL.take j).flatten).y o) ∧ Since w wq ∧ Hid (OkK (LL.take j).flatten)) (fun y _ => N - (intOf y).toNat)
        case atStart => exact ⟨0, by omega, rfl, ⟨false, hLl⟩, hSl, Lib.hid okK_nil⟩
        case round =>
          obtain ⟨j, hj, rfl, ⟨lo, hT⟩, hSq, HOK⟩ := hrel
          clear hLl hSl hS0
          by_cases hjn : j < N
          · have hjn' : (j : Int) < N := by omega
            have hjL : j < LL.length := by rw [← HN.out]; exact hjn
            have hL : LL[j]? = some LL[j] := List.getElem?_eq_getElem hjL
            have hml := HM.out _ (List.mem_of_getElem? hL)
            have htk : (LL.take (j + 1)).flatten = (LL.take j).flatten ++ LL[j] := by rw [List.take_succ_eq_append_getElem hjL, List.flatten_append]; simp
            generalize LL[j] = L at *
            obtain ⟨b, o, A', c', rfl, hb, hcell, hK⟩ := HO.out.row hL
            have c1 := (hSq.1 _ _ hb).trans hcell
            obtain ⟨n, hnl⟩ : ∃ n, n = L.length := ⟨_, rfl⟩
            rw [← hnl] at hml c1
            have HNL := Lib.hid hnl
            have HK := Lib.hid hK
            have HTK := Lib.hid htk
            have HLJ := Lib.hid hL
            have hnI : (n : Int) ≤ 1000000 := by omega
            clear hL hcell hjL hnl hK htk
            go_wp2_with fail
            go_loopw [44] (fun y wi => ∃ (k : Nat), k ≤ n ∧ y = .int .i64 (k : Int) ∧ (∃ o, Tri wi lb (lastK ((LL.take j).flatten ++ L.take k)).x (lastK ((LL.take j).flatten ++ L.take k)).y o) ∧ Since w wi ∧ Hid (OkK ((LL.take j).flatten ++ L.take k))) (fun y _ => n - (intOf y).toNat)
            case atStart => exact ⟨0, by omega, rfl, ⟨lo, by simpa using hT⟩, hSq, by simpa using HOK⟩
            case round =>
              obtain ⟨k, hk, rfl, ⟨lo', hT'⟩, hSi, HOK'⟩ := hrel
              clear hT c1 hSq
              by_cases hkn : k < n
              · have hkn' : (k : Int) < n := by omega
                have hkL : k < L.length := by rw [← HNL.out]; exact hkn
                have hx : L[k]? = some L[k] := List.getElem?_eq_getElem hkL
                have htk2 : (LL.take j).flatten ++ L.take (k + 1) = (LL.take j).flatten ++ L.take k ++ [L[k]] := by rw [List.take_succ_eq_append_getElem hkL, List.append_assoc]
                have hbad := chk_bad (m := m) H0.out H7.out HLJ.out hx
                have hsn := okK_snoc ((LL.take j).flatten ++ L.take k) L[k]
                have hlast := okK_last HOK'.out
                generalize L[k] = x at *
                obtain ⟨bk, ok, rfl, hbk, hck⟩ := HK.out (by omega)
                have d1 := (hSi.1 _ _ hbk).trans (hck k x hx 0 (by omega))
                have d2 := (hSi.1 _ _ hbk).trans (hck k x hx 1 (by omega))
                have d3 := (hSi.1 _ _ hbk).trans (hck k x hx 2 (by omega))
                simp only [knL, List.getD_cons_succ, List.getD_cons_zero, Nat.add_zero] at d1 d2 d3
                have u1 : IntKind.i64.wrap ((k : Int) + 1) = (k : Int) + 1 := IntWalk.i64_in _ (by omega)
                generalize (LL.take j).flatten ++ L.take k = S at *
                generalize lastK S = lk at *
                obtain ⟨lx, ly, lz⟩ := lk
                obtain ⟨x1, x2, x3⟩ := x
                simp only at hT' hbad hsn hlast d1 d2 d3
                have hbad' := Lib.hid hbad
                have hsn' := Lib.hid hsn
                have HTK2 := Lib.hid htk2
                have HSI := Lib.hid hSi
                have HT' := Lib.hid hT'
                have hbl : wr.heap.size ≠ lb := by have := hT'.2.2.2.2.2.2; omega
                have hTa := hT'.alloc (.cells #[.int .i64 x1, .int .i64 x2, .bool x3] 76)
                obtain ⟨t1, t2, t3, t4, t5, t6, t7⟩ := id hT'
                clear hx hck hkL htk2 hbad hsn hT' hSi
                have w1 : Sh x1 → IntKind.i64.wrap (x1 - lx) = x1 - lx := fun h => by have := hlast.1; unfold Sh at *; rw [IntKind.wrap_i64]; omega
                have w2 : Sh x2 → IntKind.i64.wrap (x2 - ly) = x2 - ly := fun h => by have := hlast.2; unfold Sh at *; rw [IntKind.wrap_i64]; omega
                by_cases e1 : Sh x1
                · have f1 := decide_eq_true e1
                  have w1 := w1 e1
                  by_cases e2 : Sh x2
                  · have f2 := decide_eq_true e2
                    have w2 := w2 e2
                    by_cases e3 : Sh (x1 - lx)
                    · have f3 := decide_eq_true e3
                      by_cases e4 : Sh (x2 - ly)
                      · have f4 := decide_eq_true e4
                        have HN := Lib.hid (show OkK (S ++ [⟨x1, x2, x3⟩]) from hsn'.out.2 ⟨HOK'.out, e1, e2, e3, e4⟩)
                        clear e1 e2 e3 e4 hlast
                        go_wp2_with (go_at_call 103; (with_reducible refine (si_fits _ _).mono ?_); rintro e w2 ⟨rfl, rfl⟩)
                        go_roundw
                        case rel =>
                          refine ⟨k + 1, by omega, by go_num, ⟨x3, ?_⟩, ?_, by rw [HTK2.out]; exact HN⟩
                          · rw [HTK2.out, lastK_snoc]
                            exact (HT'.out.put x1 x2 x3).alloc _
                          · exact (((HSI.out.setCell (show w.heap.size ≤ (Addr.mk lb 0 none).block from hlw) _).setCell (show w.heap.size ≤ (Addr.mk lb 1 none).block from hlw) _).setCell (show w.heap.size ≤ (Addr.mk lb 2 none).block from hlw) _).alloc _
                        case measure => simp [intOf]; omega
                      · have f4 := decide_eq_false e4
                        have E := Lib.hid (hbad'.out (fun h => e4 h.2.2.2))
                        clear e1 e2 e3 e4 hlast
                        go_wp2_with (go_at_call 103; (with_reducible refine (si_fits _ _).mono ?_); rintro e w2 ⟨rfl, rfl⟩)
                        go_ret
                        exact chkpost E.out (by have hX := HSI.out; (repeat (first | with_reducible (exact Since.refl _) | with_reducible assumption | with_reducible (refine Since.drew ?_) | with_reducible (refine Since.drewN ?_ _) | with_reducible (refine Since.alloc ?_ _) | (with_reducible (refine Since.setCell ?_ ?_ _); rotate_left; focus (first | (simp; done) | (simp; omega) | omega)) | (with_reducible (refine Since.trans ?_ (by with_reducible assumption))))))
                    · have f3 := decide_eq_false e3
                      have E := Lib.hid (hbad'.out (fun h => e3 h.2.2.1))
                      clear e1 e2 e3 hlast
                      go_wp2_with (go_at_call 103; (with_reducible refine (si_fits _ _).mono ?_); rintro e w2 ⟨rfl, rfl⟩)
                      go_ret
                      exact chkpost E.out (by have hX := HSI.out; (repeat (first | with_reducible (exact Since.refl _) | with_reducible assumption | with_reducible (refine Since.drew ?_) | with_reducible (refine Since.drewN ?_ _) | with_reducible (refine Since.alloc ?_ _) | (with_reducible (refine Since.setCell ?_ ?_ _); rotate_left; focus (first | (simp; done) | (simp; omega) | omega)) | (with_reducible (refine Since.trans ?_ (by with_reducible assumption))))))
                  · have f2 := decide_eq_false e2
                    have E := Lib.hid (hbad'.out (fun h => e2 h.2.1))
                    clear e1 e2 hlast w2
                    go_wp2_with (go_at_call 103; (with_reducible refine (si_fits _ _).mono ?_); rintro e w2 ⟨rfl, rfl⟩)
                    go_ret
                    exact chkpost E.out (by have hX := HSI.out; (repeat (first | with_reducible (exact Since.refl _) | with_reducible assumption | with_reducible (refine Since.drew ?_) | with_reducible (refine Since.drewN ?_ _) | with_reducible (refine Since.alloc ?_ _) | (with_reducible (refine Since.setCell ?_ ?_ _); rotate_left; focus (first | (simp; done) | (simp; omega) | omega)) | (with_reducible (refine Since.trans ?_ (by with_reducible assumption))))))
                · have f1 := decide_eq_false e1
                  have E := Lib.hid (hbad'.out (fun h => e1 h.1))
                  clear e1 hlast w1 w2
                  go_wp2_with (go_at_call 103; (with_reducible refine (si_fits _ _).mono ?_); rintro e w2 ⟨rfl, rfl⟩)
                  go_ret
                  exact chkpost E.out (by have hX := HSI.out; (repeat (first | with_reducible (exact Since.refl _) | with_reducible assumption | with_reducible (refine Since.drew ?_) | with_reducible (refine Since.drewN ?_ _) | with_reducible (refine Since.alloc ?_ _) | (with_reducible (refine Since.setCell ?_ ?_ _); rotate_left; focus (first | (simp; done) | (simp; omega) | omega)) | (with_reducible (refine Since.trans ?_ (by with_reducible assumption))))))
              · obtain rfl : k = n := by omega
                have e : L.take k = L := by rw [HNL.out]; exact List.take_length
                rw [e, ← HTK.out] at hT' HOK'
                have u1 : IntKind.i64.wrap ((j : Int) + 1) = (j : Int) + 1 := IntWalk.i64_in _ (by omega)
                clear e
                go_wp2_with fail
                go_roundw
                case rel => exact ⟨j + 1, by omega, by go_num, ⟨lo', hT'⟩, hSi, HOK'⟩
                case measure => simp [intOf]; omega
          · obtain rfl : j = N := by omega
            have e : LL.take j = LL := by rw [HN.out]; exact List.take_length
            rw [e] at HOK
            have E := Lib.hid (show chkE LL m = 0 by unfold chkE; rw [if_neg H0.out, if_neg H7.out, if_pos]; exact HOK.out)
            clear e
            go_wp2_with fail
            go_ret
            exact chkpost E.out hSq
end Go.Proofs.Ytpplnapfpoloiaa
