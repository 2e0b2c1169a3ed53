/-
  Layer 11: 'Lift', walked.
-/
import Derived.Test.YtdbenpncnkfliaaKitQ
import Derived.Test.YtdbenpncnkfliaaCrA
namespace Go.Proofs.Ytdbenpncnkfliaa
open Go.RowKit Go.ChangeShapes Go.WideShapes Go.Deep
set_option linter.unusedVariables false

def liftK (k : Kt) : Kt := ⟨64 * k.x, 64 * k.y, k.o⟩
def inUnit (k : Kt) : Prop := -32768 ≤ k.x ∧ k.x ≤ 32767 ∧ -32768 ≤ k.y ∧ k.y ≤ 32767
instance (k : Kt) : Decidable (inUnit k) := by unfold inUnit; infer_instance
def K0 : Kt := ⟨0, 0, false⟩
/-- All of the knots ahead of a place are in range. -/
def allIn (LL : List (List Kt)) : Prop := ∀ L, L ∈ LL → ∀ k, k ∈ L → inUnit k
theorem lift_fill (L : List Kt) (i : Nat) (hi : i < L.length) :
    ((L.take i).map liftK ++ List.replicate (L.length - i) K0).set i (liftK L[i]) = (L.take (i + 1)).map liftK ++ List.replicate (L.length - (i + 1)) K0 := by
  have hl : ((L.take i).map liftK).length = i := by simp; omega
  rw [List.set_append_right _ _ (by omega), hl, Nat.sub_self, List.take_succ_eq_append_getElem hi, List.map_append, List.append_assoc]
  congr 1
  obtain ⟨d, hd⟩ : ∃ d, L.length - i = d + 1 := ⟨L.length - i - 1, by omega⟩
  rw [hd, List.replicate_succ, show L.length - (i + 1) = d by omega]
  rfl
theorem fill_len (L : List Kt) (i : Nat) (hi : i ≤ L.length) : ((L.take i).map liftK ++ List.replicate (L.length - i) K0).length = L.length := by simp; omega
/-- What 'Lift' answers. -/
def LiftOut (w : World) (LL : List (List Kt)) (e : Ending) (w' : World) : Prop :=
  (allIn LL ∧ ∃ v base, e = .returned (.tuple #[v, .int .i64 0]) ∧ w.heap.size ≤ base ∧ OwnO w' base v (LL.map (List.map liftK)) ∧ Since w w') ∨ (¬ allIn LL ∧ e = .returned (.tuple #[.slice none 0 0, .int .i64 6]) ∧ Since w w')
set_option maxRecDepth 1000000 in
set_option maxHeartbeats 32000000 in
theorem ou_lift (A : Option Addr) (c : Nat) (LL : List (List Kt)) (w : World) (h : RdOL w w.heap.size A LL) (hn : LL.length ≤ 1000000) (hm : ∀ L, L ∈ LL → L.length ≤ 1000000) :
    Calls Try.prog 28 #[.slice A LL.length c] w (LiftOut w LL) := by
  obtain ⟨N, hN⟩ : ∃ N, N = LL.length := ⟨_, rfl⟩
  rw [← hN] at hn ⊢
  have HN := Lib.hid hN
  have HM := Lib.hid hm
  have hmin := min2_run
  have hmax := max2_run
  clear hN hm
  have hNI : (0 : Int) ≤ (N : Int) := by omega
  go_enter Try.func28, Try.ntmps28
  go_wp2_with (at_make; refine wpList_make_g rfl _ _ 29 23 rfl (by omega) hdL_len 24 ⟨none, 0, 0⟩ Try.underlying29 infoCt2 N rfl rfl (by omega) (by simp only [maxLen]; omega) w.heap.size (Nat.le_refl _) ?_; intro w1 hO1 hg1)
  have hS1 : Since w w1 := since_grown (Since.refl w) hg1 (fun q hq => by cases hq)
  have hb1 := (hO1.lt (g := w.heap.size) rfl).2
  obtain ⟨hb0, hbe⟩ : ∃ hb0, hb0 = w.heap.size := ⟨_, rfl⟩
  have hbw : w.heap.size ≤ hb0 := by omega
  rw [← hbe] at hb1 ⊢
  have hO1 : OwnG 23 1 hdL w1 w.heap.size (.slice (some ⟨hb0, 0, none⟩) N N) (List.replicate N ⟨none, 0, 0⟩) := by rw [hbe]; exact hO1
  clear hbe hg1
  go_loopw [14] (fun y wr => ∃ (j : Nat) (hs : List Hd), j ≤ N ∧ y = .int .i64 (j : Int) ∧ hs.length = N ∧ OwnG 23 1 hdL wr w.heap.size (.slice (some ⟨hb0, 0, none⟩) N N) hs ∧ Since w wr ∧ Hid ((∀ (i : Nat) x L, i < j → hs[i]? = some x → LL[i]? = some L → OwnK wr w.heap.size (.slice x.A x.n x.c) (L.map liftK)) ∧ ∀ (i : Nat) L, i < j → LL[i]? = some L → ∀ k, k ∈ L → inUnit k)) (fun y _ => N - (intOf y).toNat)
  case atStart => exact ⟨0, _, by omega, rfl, by simp, hO1, hS1, Lib.hid ⟨fun i x L hi => absurd hi (by omega), fun i L hi => absurd hi (by omega)⟩⟩
  case round =>
    obtain ⟨j, hs, hj, rfl, hsl, hO, hS, HK⟩ := hrel
    by_cases hjn : j < N
    · have hjn' : (j : Int) < N := by omega
      have hjL : j < LL.length := by rw [← HN.out]; exact hjn
      have hL : LL[j]? = some LL[j] := List.getElem?_eq_getElem hjL
      have hml := HM.out _ (List.mem_of_getElem? hL)
      have HLJ := Lib.hid hL
      generalize LL[j] = L at *
      obtain ⟨b, o, A', c', rfl, hb, hcell, hK⟩ := h.row hL
      have c1 := (hS.1 _ _ hb).trans hcell
      have hbw1 := hS.2.2.1 _ hb
      have hwz := hS.below.size
      have hbz := (hO.lt (g := hb0) rfl).2
      obtain ⟨n, hnl⟩ : ∃ n, n = L.length := ⟨_, rfl⟩
      rw [← hnl] at hml c1
      have HNL := Lib.hid hnl
      clear hL h hcell hjL hnl
      have hOr : wr.ownsRow w.heap.size 23 1 (.slice (some ⟨hb0, 0, none⟩) N N) N (cellsG hdL hs) := by
        have hx := hO
        unfold OwnG at hx
        rw [hsl] at hx
        exact hx
      have hfz := World.ownsRow.frozenAt hOr j
      clear hOr
      have hcj : wr.cell? ⟨hb0, j, none⟩ = some (.slice (hs.getD j ⟨none, 0, 0⟩).A (hs.getD j ⟨none, 0, 0⟩).n (hs.getD j ⟨none, 0, 0⟩).c) := by
        have hx : hs[j]? = some hs[j] := List.getElem?_eq_getElem (by omega)
        obtain ⟨A2, c2, e, _, hr2⟩ := hO.rd (by omega) hdL_len
        injection e with e1 e2 e3
        subst e1
        obtain ⟨b3, o3, e4, _, hc3⟩ := hr2 (by omega)
        injection e4 with e4
        injection e4 with e5 e6
        subst e5 e6
        have := hc3 j _ hx 0 (by omega)
        rw [Nat.zero_add, Nat.mul_one, Nat.add_zero] at this
        have hgd : hs.getD j ⟨none, 0, 0⟩ = hs[j] := by rw [List.getD_eq_getElem?_getD, hx]; rfl
        rw [this, hgd]
        rfl
      generalize hs.getD j ⟨none, 0, 0⟩ = h0 at *
      go_upto_region 6 with (at_make; refine wpList_make_g rfl _ _ 23 39 rfl (by omega) knL_len 24 K0 Try.underlying23 infoKn2 n rfl rfl (by omega) (by simp only [maxLen]; omega) w.heap.size hwz ?_; intro w4 hO4 hg4; have hc4 := cell_grown hcj hbz hg4 (by simp); have hf4 : w4.frozen? ⟨hb0, j, none⟩ = false := (by rw [← hfz]; exact World.frozen?_of_block (hg4.block hb0 hbz (by simp))); have hz4 := Nat.lt_of_lt_of_le hbz hg4.size)
      obtain ⟨q, hq0⟩ : ∃ q, q = wr.heap.size := ⟨_, rfl⟩
      have hrows : Hid ((∀ (i : Nat) x M, i < j → hs[i]? = some x → LL[i]? = some M → OwnK w4 w.heap.size (.slice x.A x.n x.c) (M.map liftK) ∧ (Value.slice x.A x.n x.c).ownBlock ≠ some q) ∧ ∀ (i : Nat) M, i < j → LL[i]? = some M → ∀ k, k ∈ M → inUnit k) := Lib.hid ⟨fun i x M h1 h2 h3 => by
        have hk := HK.out.1 i x M h1 h2 h3
        exact ⟨OwnG.grown hk hg4 (fun q hq e => by cases e), fun e => by have := (hk.lt e).2; omega⟩, HK.out.2⟩
      have hOh := OwnG.grown hO hg4 (fun q hq e => by cases e)
      have hS4 : Since w w4 := since_grown hS hg4 (fun q hq => by cases hq)
      have hbq : hb0 ≠ q := by omega
      have hqw : w.heap.size ≤ q := by omega
      have hq4 : q < w4.heap.size := by rw [hq0]; exact (hO4.lt rfl).2
      rw [← hq0] at hO4 ⊢
      clear hq0 hO hS HK hcj hfz hg4 c1 hbw1 hwz hbz
      have hne : 23 ≠ 39 := by decide
      go_upto_region 6 with fail
      refine wp_named fun w5 hw5 => ?_
      have hkb : KeepBut hb0 w4 w5 := by subst hw5; exact (KeepBut.refl hb0 w4).set j _
      have hc5 : w5.cell? ⟨hb0, j, none⟩ = some (.slice (some ⟨q, 0, none⟩) n n) := by subst hw5; rw [cell_set, if_pos ⟨rfl, rfl⟩, hc4]; rfl
      have hOw4 := hOh
      have hOh : OwnG 23 1 hdL w5 w.heap.size (.slice (some ⟨hb0, 0, none⟩) N N) (hs.set j ⟨some ⟨q, 0, none⟩, n, n⟩) := by subst hw5; exact OwnH.put hOh j (some ⟨q, 0, none⟩) n n (by omega)
      have hO5 := OwnG.but hO4 hkb (fun e => by injection e with e; exact hbq e.symm)
      have hS5 : Since w w5 := by subst hw5; exact hS4.setCell hbw _
      have hz5 := hkb.1
      have hb5 : hb0 < w5.heap.size := by omega
      have HR5 : Hid ((∀ (i : Nat) x M, i < j → hs[i]? = some x → LL[i]? = some M → OwnK w5 w.heap.size (.slice x.A x.n x.c) (M.map liftK) ∧ (Value.slice x.A x.n x.c).ownBlock ≠ some q) ∧ ∀ (i : Nat) M, i < j → LL[i]? = some M → ∀ k, k ∈ M → inUnit k) := Lib.hid ⟨fun i x M h1 h2 h3 => by
        obtain ⟨hk, hx⟩ := hrows.out.1 i x M h1 h2 h3
        refine ⟨OwnG.but hk hkb (fun e => ?_), hx⟩
        exact own_apart hOw4 hk hne rfl e, hrows.out.2⟩
      have hO5 : OwnK w5 w.heap.size (.slice (some ⟨q, 0, none⟩) n n) ((L.take 0).map liftK ++ List.replicate (n - 0) K0) := by simpa using hO5
      clear hkb hc4 hf4 hz4 hOw4 hO4 hrows hS4 hq4 hw5
      go_wp2_with fail
      go_loopw [27] (fun y wr' => ∃ k : Nat, k ≤ n ∧ y = .int .i64 (k : Int) ∧ OwnK wr' w.heap.size (.slice (some ⟨q, 0, none⟩) n n) ((L.take k).map liftK ++ List.replicate (n - k) K0) ∧ KeepBut q w5 wr' ∧ Since w wr' ∧ Hid (∀ (t : Nat) K, t < k → L[t]? = some K → inUnit K)) (fun y _ => n - (intOf y).toNat)
      case atStart => exact ⟨0, by omega, rfl, hO5, KeepBut.refl _ _, hS5, Lib.hid (fun t K ht => absurd ht (by omega))⟩
      case round =>
        obtain ⟨k, hk, rfl, hO, hkp, hS, HU⟩ := hrel
        by_cases hkn : k < n
        · have hkn' : (k : Int) < n := by omega
          have hkl : k < L.length := by rw [← HNL.out]; exact hkn
          have hkL : L[k]? = some L[k] := List.getElem?_eq_getElem hkl
          have hfill := lift_fill L k hkl
          obtain ⟨bk, ok, rfl, hbk, hck⟩ := hK (by omega)
          have c1 := (hS.1 _ _ hbk).trans (hck k _ hkL 0 (by omega))
          have c2 := (hS.1 _ _ hbk).trans (hck k _ hkL 1 (by omega))
          have c3 := (hS.1 _ _ hbk).trans (hck k _ hkL 2 (by omega))
          have hbw1 := hS.2.2.1 _ hbk
          rw [← HNL.out] at hfill
          have HF := Lib.hid hfill
          have HKL := Lib.hid hkL
          clear hfill hkL hck hK
          generalize L[k] = K at *
          obtain ⟨x, y, o⟩ := K
          simp only [knL, List.getD_cons_succ, List.getD_cons_zero, Nat.add_zero] at c1 c2 c3
          go_upto_region 9 with fail
          refine wp_named fun w6 hw6 => ?_
          have rT : Row w6 wr.heap.size 3 (Kf x y o) := by subst hw6; exact krow wr _ rfl _ _ _ _
          have hS6 : Since wr w6 := by subst hw6; (repeat (first | with_reducible (exact Since.refl _) | with_reducible assumption | with_reducible (refine Since.drew ?_) | with_reducible (refine Since.drewN ?_ _) | with_reducible (refine Since.alloc ?_ _) | (with_reducible (refine Since.setCell ?_ ?_ _); rotate_left; focus (first | (simp; done) | (simp; omega) | omega)) | (with_reducible (refine Since.trans ?_ (by with_reducible assumption)))))
          clear hw6 c1 c2 c3 hbw1
          have hO := OwnG.since hO hS6
          have hkp := hkp.since hS6
          have hS := hS.trans hS6
          have hz6 := hkp.1
          generalize wr.heap.size = tb at *
          obtain ⟨t1, t2, t3, t4⟩ := kcells rT
          have hc6 := hkp.cell hc5 hb5 hbq
          have hb6 : hb0 < w6.heap.size := by omega
          by_cases hin : inUnit ⟨x, y, o⟩
          · obtain ⟨v1, v2, v3, v4⟩ := hin
            simp only at v1 v2 v3 v4
            have d1 : decide ((32767 : Int) < hi2 x y) = false := by unfold hi2; split <;> simp <;> omega
            have d2 : decide (lo2 x y < (-32768 : Int)) = false := by unfold lo2; split <;> simp <;> omega
            have u1 : IntKind.i64.wrap (64 * x) = 64 * x := IntWalk.i64_in _ (by omega)
            have u2 : IntKind.i64.wrap (64 * y) = 64 * y := IntWalk.i64_in _ (by omega)
            have hin : inUnit ⟨x, y, o⟩ := ⟨v1, v2, v3, v4⟩
            have HIN := Lib.hid hin
            clear hin v1 v2 v3 v4
            have hol : ((L.take k).map liftK ++ List.replicate (n - k) K0).length = n := by rw [HNL.out]; exact fill_len L k (by omega)
            obtain ⟨A2, c2, e2, _, hr2⟩ := OwnG.rd (by omega) knL_len hO
            injection e2 with e2 e2a e2b
            subst e2
            clear e2a e2b
            obtain ⟨b3, o3, e4, hb3, hc3⟩ := hr2 (by omega)
            injection e4 with e4
            injection e4 with e5 e6
            subst e5 e6
            have hgk := hc3 k _ (List.getElem?_eq_getElem (by omega))
            have p1 := hgk 0 (by omega)
            have p2 := hgk 1 (by omega)
            have p3 := hgk 2 (by omega)
            generalize ((L.take k).map liftK ++ List.replicate (n - k) K0)[k]'(by omega) = KX at *
            simp only [knL, List.getD_cons_succ, List.getD_cons_zero, Nat.add_zero, Nat.zero_add] at p1 p2 p3
            have hor : w6.ownsRow w.heap.size 39 3 (.slice (some ⟨q, 0, none⟩) n n) n (cellsG knL ((L.take k).map liftK ++ List.replicate (n - k) K0)) := by
              have hx := hO
              unfold OwnK OwnG at hx
              rw [hol] at hx
              exact hx
            have f1 := World.ownsRow.frozenAt hor (k * 3)
            have f2 := World.ownsRow.frozenAt hor (k * 3 + 1)
            have f3 := World.ownsRow.frozenAt hor (k * 3 + 2)
            clear hor hgk hc3 hr2
            go_upto_region 11 with fail
            have hnext : Hid (∀ (t : Nat) K, t < k + 1 → L[t]? = some K → inUnit K) := Lib.hid (fun t K ht hK => by
              by_cases e : t = k
              · subst e
                rw [HKL.out] at hK
                injection hK with hK
                rw [← hK]
                exact HIN.out
              · exact HU.out t K (by omega) hK)
            have HOL := Lib.hid hol
            have HSL := Lib.hid hsl
            have HO := Lib.hid hO
            have HKP := Lib.hid hkp
            have HS := Lib.hid hS
            have HOH := Lib.hid hOh
            have HNE := Lib.hid hne
            clear hol hsl hmin hmax hO hkp hS hOh hne d1 d2 hc5 hS5 hS1 hO1 hO5 rT hz5 hz6 hNI
            go_region
            all_goals (go_wp2_with fail)
            all_goals go_roundw
            all_goals first
              | (simp [intOf]; omega)
              | (refine ⟨k + 1, by omega, by go_num, ?_, ((HKP.out.set _ _).set _ _).set _ _, ((HS.out.drew.setCell hqw _).setCell hqw _).setCell hqw _, hnext⟩; rw [← HF.out]; exact OwnK.put HO.out k _ _ _ (by rw [HOL.out]; omega))
          · have hout : ¬ allIn LL := fun ha => hin (ha L (List.mem_of_getElem? HLJ.out) _ (List.mem_of_getElem? HKL.out))
            have HOUT := Lib.hid hout
            have hd : hi2 x y > 32767 ∨ lo2 x y < -32768 := by
              unfold inUnit at hin
              simp only at hin
              unfold hi2 lo2
              split <;> split <;> omega
            clear hin hout
            by_cases h3 : hi2 x y > 32767
            · have d1 : decide ((32767 : Int) < hi2 x y) = true := by simp; omega
              go_wp2_with fail
              refine bodyPost_ret (v := .tuple #[.slice none 0 0, .int .i64 6]) (by simp only [results, Try.results28]; go_simp) rfl ?_
              exact .inr ⟨HOUT.out, rfl, hS⟩
            · have d1 : decide ((32767 : Int) < hi2 x y) = false := by simp; omega
              have d2 : decide (lo2 x y < (-32768 : Int)) = true := by simp; omega
              go_wp2_with fail
              refine bodyPost_ret (v := .tuple #[.slice none 0 0, .int .i64 6]) (by simp only [results, Try.results28]; go_simp) rfl ?_
              exact .inr ⟨HOUT.out, rfl, hS⟩
        · obtain rfl : n = k := by omega
          go_wp2_with fail
          go_roundw
          case rel =>
            have hend : OwnK wr w.heap.size (.slice (some ⟨q, 0, none⟩) n n) (L.map liftK) := by
              have e : (L.take n).map liftK ++ List.replicate (n - n) K0 = L.map liftK := by rw [HNL.out, List.take_length]; simp
              rw [← e]; exact hO
            refine ⟨j + 1, _, by omega, by go_num, by rw [List.length_set]; exact hsl, OwnG.but hOh hkp (fun e => by injection e with e; exact hbq e), hS, Lib.hid ⟨fun i x M hi h1 h2 => ?_, fun i M hi h2 => ?_⟩⟩
            · by_cases e : i = j
              · subst e
                rw [List.getElem?_set_self (by omega)] at h1
                injection h1 with h1
                rw [HLJ.out] at h2
                injection h2 with h2
                subst h1 h2
                exact hend
              · rw [List.getElem?_set_ne (fun x => e x.symm)] at h1
                obtain ⟨hk5, hx5⟩ := HR5.out.1 i x M (by omega) h1 h2
                exact OwnG.but hk5 hkp hx5
            · by_cases e : i = j
              · subst e
                rw [HLJ.out] at h2
                injection h2 with h2
                subst h2
                intro K hK
                obtain ⟨t, ht, hg⟩ := List.getElem_of_mem hK
                exact HU.out t K (by rw [HNL.out]; exact ht) (by rw [List.getElem?_eq_getElem ht, hg])
              · exact HR5.out.2 i M (by omega) h2
          case measure => simp [intOf]; omega
    · obtain rfl : N = j := by omega
      have hall : allIn LL := fun L hL => by
        obtain ⟨i, hi, hg⟩ := List.getElem_of_mem hL
        exact HK.out.2 i L (by rw [HN.out]; exact hi) (by rw [List.getElem?_eq_getElem hi, hg])
      have HALL := Lib.hid hall
      clear hall
      go_wp2_with fail
      refine bodyPost_ret (v := .tuple #[.slice (some ⟨hb0, 0, none⟩) N N, .int .i64 0]) (by simp only [results, Try.results28]; go_simp) rfl ?_
      refine .inl ⟨HALL.out, _, w.heap.size, rfl, Nat.le_refl _, ⟨hs, by rw [List.length_map, hsl]; exact HN.out, hO, fun i x M h1 h2 => ?_⟩, hS⟩
      rw [List.getElem?_map] at h2
      cases hg : LL[i]? with
      | none => rw [hg] at h2; cases h2
      | some L =>
        rw [hg] at h2
        simp only [Option.map_some, Option.some.injEq] at h2
        subst h2
        have hi : i < LL.length := by
          rcases Nat.lt_or_ge i LL.length with h | h
          · exact h
          · rw [List.getElem?_eq_none h] at hg; cases hg
        exact HK.out.1 i x L (by rw [HN.out]; exact hi) h1 hg
end Go.Proofs.Ytdbenpncnkfliaa
