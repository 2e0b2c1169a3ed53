/-
  Texts of this seat, put together: each with its own head.
-/
import Derived.Test.YtdbenpncnkfliaaFlBk
import Derived.JoinedCond

/-
  Layer 14: 'Closed', walked.
-/
namespace Go.Proofs.Ytdbenpncnkfliaa
open Go.RowKit Go.ChangeShapes Go.WideShapes Go.Deep Go.Maps
set_option linter.unusedVariables false

abbrev OwnsM (w : World) (b n : Nat) (D : DataW Unit) : Prop := w.ownsMap Try.prog 33 (plainElem Try.prog 3) b n D
theorem cnt_wf {L : List Lq} {p : Pq} {k : Nat} (h : k ≤ 1000000) : (Lit.int .i64 (cntJ L p k + 1)).wf = true ∧ (Lit.int .i64 (cntJ L p k)).wf = true ∧ (Lit.int .i64 (cntJ L p k - 1)).wf = true := by
  have := cntJ_in L p k
  exact ⟨WalkArith.wf_i64 (by omega), WalkArith.wf_i64 (by omega), WalkArith.wf_i64 (by omega)⟩
set_option maxRecDepth 100000 in
set_option maxHeartbeats 8000000 in
theorem fa_closed (A : Option Addr) (L : List Lq) (c : Nat) (w : World) (h : RdG 4 lnL w w.heap.size A L) (hL : L.length ≤ 1000000) (hwf : ∀ x ∈ L, wfLq x) :
    Calls Try.prog 38 #[.slice A L.length c] w fun e w' => e = .returned (.bool (closedB L)) ∧ Since w w' := by
  have hmm := @run_makeMap Try.prog
  obtain ⟨n, hn⟩ : ∃ n, n = L.length := ⟨_, rfl⟩
  rw [← hn] at hL ⊢
  have H := Lib.hid h
  have HN := Lib.hid hn
  have HWF := Lib.hid hwf
  clear h hn hwf
  go_enter Try.func38, Try.ntmps38
  go_wp2_with fail
  refine wp_named fun w0 hw0 => ?_
  have hM0 : OwnsM w0 w.heap.size 0 (.map []) := by subst hw0; exact World.ownsMap_made _ _ _ _
  have hS0 : Since w w0 := by subst hw0; (repeat (first | with_reducible (exact Since.refl _) | with_reducible assumption | with_reducible (refine Since.drew ?_) | with_reducible (refine Since.drewN ?_ _) | with_reducible (refine Since.alloc ?_ _) | (with_reducible (refine Since.setCell ?_ ?_ _); rotate_left; focus (first | (simp; done) | (simp; omega) | omega)) | (with_reducible (refine Since.trans ?_ (by with_reducible assumption)))))
  obtain ⟨q, hq⟩ : ∃ q, q = w.heap.size := ⟨_, rfl⟩
  rw [← hq] at hM0 ⊢
  have HQ := Lib.hid hq
  clear hw0 hq
  go_loopw [11] (fun y wr => ∃ (j m : Nat) (D : DataW Unit), j ≤ n ∧ y = .int .i64 (j : Int) ∧ OwnsM wr q m D ∧ m ≤ 2 * j ∧ CntM D (fun p => cntJ L p j) (EndOf L) ∧ Since w wr) (fun y _ => n - (intOf y).toNat)
  case atStart => exact ⟨0, 0, _, by omega, rfl, hM0, by omega, CntM.empty _, hS0⟩
  case round =>
    obtain ⟨j, m, D, hj, rfl, hM, hm, hC, hSr⟩ := hrel
    by_cases hjn : j < n
    · have hjn' : (j : Int) < n := by omega
      have hnn := HN.out
      obtain ⟨b, o, rfl, hb, hc⟩ := H.out (by omega)
      obtain ⟨x, hx⟩ : ∃ x, L[j]? = some x := ⟨_, List.getElem?_eq_getElem (by omega)⟩
      have hwx := HWF.out x (List.mem_of_getElem? hx)
      have c1 := (hSr.1 _ _ hb).trans (hc j _ hx 0 (by omega))
      have c2 := (hSr.1 _ _ hb).trans (hc j _ hx 1 (by omega))
      have c3 := (hSr.1 _ _ hb).trans (hc j _ hx 2 (by omega))
      have c4 := (hSr.1 _ _ hb).trans (hc j _ hx 3 (by omega))
      simp only [lnL, List.getD_cons_succ, List.getD_cons_zero, Nat.add_zero] at c1 c2 c3 c4
      have hj0 : (0 : Int) ≤ j := by omega
      have u1 : IntKind.i64.wrap ((j : Int) + 1) = (j : Int) + 1 := IntWalk.i64_in _ (by omega)
      clear hc hnn
      go_upto_region 5 with fail
      refine wp_named fun w1 hw1 => ?_
      have p1 : w1.cell? ⟨wr.heap.size, 0, none⟩ = some (.int .i64 x.ax) := by subst hw1; simp
      have p2 : w1.cell? ⟨wr.heap.size, 1, none⟩ = some (.int .i64 x.ay) := by subst hw1; simp
      have p3 : w1.cell? ⟨wr.heap.size, 2, none⟩ = some (.int .i64 x.bx) := by subst hw1; simp
      have p4 : w1.cell? ⟨wr.heap.size, 3, none⟩ = some (.int .i64 x.bz) := by subst hw1; simp
      have hM1 : OwnsM w1 q m D := by subst hw1; exact hM.alloc _
      have hS1 : Since wr w1 := by subst hw1; exact (Since.refl _).alloc _
      have hrl : wr.heap.size < w1.heap.size := by subst hw1; simp
      clear hw1 c1 c2 c3 c4
      have hqr : q < wr.heap.size := hM.lt
      generalize wr.heap.size = r at *
      obtain ⟨k1, v1, st1, w2, ka, kw, kl, km, kn, ks⟩ := map_entry hM1.drew (by simp only [maxLen]; omega) hwx.1
      have hk1 := hC.look hwx.1 ka
      have hk1b := cntJ_in L ⟨x.ax, x.ay⟩ j
      rw [← hk1] at hk1b
      have HK1 := Lib.hid hk1
      clear hk1
      obtain ⟨w3, ks1, hM3, hg3⟩ := ks (k1 + 1) (WalkArith.wf_i64 (by omega))
      have u2 : IntKind.i64.wrap (k1 + 1) = k1 + 1 := IntWalk.i64_in _ (by omega)
      try simp only at kl km kn
      clear ks
      go_region
      all_goals (
        have hS3 : Since w w3 := since_grown (hSr.trans hS1).drew hg3 (fun k hk => by have := HQ.out; simp at hk; omega)
        have f3 : ∀ i, w3.cell? ⟨r, i, none⟩ = w1.cell? ⟨r, i, none⟩ := fun i => by
          have e := hg3.block r hrl (by simp; omega)
          simp only [World.cell?, e]
          rfl
        have p3' := (f3 2).trans p3
        have p4' := (f3 3).trans p4
        clear p1 p2 p3 p4 kl km kn ks1 f3
        have hC3 := hC.put hwx.1 ⟨j, x, hx, .inl rfl⟩ (k1 + 1)
        obtain ⟨k2, v2, st2, w4, ja, jw, jl, jm, jn, js⟩ := map_entry hM3.drew (by simp only [maxLen]; omega) hwx.2
        have hk2 := hC3.look hwx.2 ja
        have hk2b : -((j : Int) + 1) ≤ k2 ∧ k2 ≤ (j : Int) + 1 := by
          have := cntJ_in L ⟨x.bx, x.bz⟩ j
          rw [hk2]
          split <;> omega
        have hC5 := (hC3.put hwx.2 ⟨j, x, hx, .inr rfl⟩ (k2 - 1)).ext (g := fun p => cntJ L p (j + 1)) (fun p => by rw [← cnt_two L j x hx p, hk2, HK1.out])
        obtain ⟨w5, js1, hM5, hg5⟩ := js (k2 - 1) (WalkArith.wf_i64 (by omega))
        have u3 : IntKind.i64.wrap (k2 - 1) = k2 - 1 := IntWalk.i64_in _ (by omega)
        have HC5 := Lib.hid hC5
        try simp only at jl jm jn
        clear js hk2 hC3 hC HK1 hC5
        go_wp2_with fail
        go_region
        all_goals (
          have hS5 : Since w w5 := since_grown hS3.drew hg5 (fun k hk => by have := HQ.out; simp at hk; omega)
          clear p3' p4' jl jm jn js1
          go_wp2_with fail
          go_roundw
          case rel => exact ⟨j + 1, m + 1 + 1, _, by omega, by go_num, hM5, by omega, HC5.out, hS5⟩
          case measure => simp [intOf]; omega))
    · obtain rfl : j = n := by omega
      have hcl : ∀ p, cntJ L p j = cntL L p := fun p => by unfold cntL; rw [← HN.out]
      have hCL := hC.ext hcl
      have HCL := Lib.hid hCL
      clear hcl hC hCL hmm
      go_wp2_with (first | (at_range; refine wpList_range_own _ rfl _ 86 rfl 33 3 lawPt Try.underlying86 (plainElem Try.prog 3) q m D rfl hM ?_; intro v9 hrg hgr9 hsz9))
      go_frame
      have hT9 : Since w v9 := hSr.trans (since_grown (Since.refl _) hgr9 (fun k hk => by cases hk))
      have hrw := hSr.below.size
      generalize wr.heap.size = r at *
      clear hgr9 hsz9 hM hSr hS0 hM0
      go_loopw [] (fun wv => ∃ (left : Lit → Bool) (cnt : Nat), wv.ranges Try.prog 33 (plainElem Try.prog 3) q r m D left cnt ∧ Since w wv ∧ ∀ p, wfP p → Maps.has D (kPq p) = true → left (kPq p) = false → cntL L p = 0) (fun wv => wv.rangeLeft q r)
      case atStart => exact ⟨_, _, hrg, hT9, fun p hp h1 h2 => by rw [h1] at h2; cases h2⟩
      case round =>
        obtain ⟨left, cnt, hrg, hS, hA⟩ := hrel
        have HA := Lib.hid hA
        clear hA
        go_wp2_with (first | (at_next; refine wpList_next_ranges _ rfl _ rfl 33 lawPt (plainElem Try.prog 3) (fun x : Pq => Pt x.x x.y) (fun c : Int => .int .i64 c) invKq invVi q r m _ _ _ rfl hrg ?_ ?_))
        · intro hc0 hl0
          have e : closedB L = true := closed_end_all L HWF.out fun p hp => by
            cases hh : Maps.has D (kPq p) with
            | true => exact HA.out p hp hh (hl0 _)
            | false =>
              have e := (HCL.out.2.1 p hp).symm.trans (atKey_of_not_has hh _)
              simpa using e
          have E := Lib.hid e
          clear e hc0 hl0 hrg
          go_wp2_with fail
          go_ret
          exact ⟨by rw [E.out]; rfl, hS⟩
        · intro p cv kl yv ps w5 cnt5 hkey hlk hv hat hrg5 hlt hgr5 hsz5 hen
          obtain ⟨rfl, hwp⟩ := keyOf_pq_inv hkey
          obtain ⟨c', e1, e2, hw'⟩ := plainElem_int_inv Try.underlying3 hv
          have e1 : cv = c' := by simpa using e1
          subst e1
          have e2 : yv = .lit (.int .i64 cv) := congrArg Prod.fst e2
          subst e2
          have hcv : cntL L p = cv := by
            have e := (HCL.out.2.1 p hwp).symm.trans (hat _)
            simpa using e
          have hS5 : Since w w5 := since_grown hS hgr5 (fun k hk => by simp at hk; omega)
          have hend := HCL.out.2.2 p hwp (Maps.has_true_of_atKey hat)
          by_cases hz : cv = 0
          · subst hz
            have hA5 : ∀ p', wfP p' → Maps.has D (kPq p') = true → (left (kPq p') && !(kPq p').sameKey (kPq p)) = false → cntL L p' = 0 := fun p' hp' h1 h2 => by
              cases hl : left (kPq p') with
              | false => exact HA.out p' hp' h1 hl
              | true =>
                rw [hl] at h2
                have hs : (kPq p').sameKey (kPq p) = true := by simpa using h2
                rw [kPq_inj hp' hwp (WideAt.sameKey_eq hs)]
                exact hcv
            have HA5 := Lib.hid hA5
            have HL5 := Lib.hid hlt
            have HR5 := Lib.hid hrg5
            have HRG := Lib.hid hrg
            clear hA5 hend hcv hkey hv hat hlk hlt hrg5 hrg hgr5 hsz5
            go_wp2_with fail
            go_roundw
            case rel => exact ⟨_, _, HR5.out, hS5, HA5.out⟩
            case measure =>
              rw [HR5.out.left_eq, HRG.out.left_eq]
              exact HL5.out
          · have e : closedB L = false := closed_end_not L p hend (by rw [hcv]; exact hz)
            have E := Lib.hid e
            clear e hend hcv hkey hv hat hlk hlt hrg5 hrg hgr5 hsz5 HA
            go_wp2_with fail
            go_ret
            exact ⟨by rw [E.out]; rfl, hS5⟩
end Go.Proofs.Ytdbenpncnkfliaa

/-
  Layer 14: the reference's 'Same', of the same points.
-/
namespace Go.Proofs.Ytdbenpncnkfliaa
open Go.RowKit Go.ChangeShapes Go.WideShapes Go.Deep
set_option linter.unusedVariables false

set_option maxRecDepth 100000 in
set_option maxHeartbeats 8000000 in
theorem rf_sameP (A B : Option Addr) (L : List Pq) (c d : Nat) (w : World) (h1 : RdG 2 ptL w w.heap.size A L) (h2 : RdG 2 ptL w w.heap.size B L) (hn : L.length ≤ maxLen) :
    Calls Try.prog 33 #[.slice A L.length c, .slice B L.length d] w fun e w' => e = .returned (.bool true) ∧ Since w w' := by
  have hn' : (L.length : Int) ≤ 9223372036854775807 := by simp only [maxLen] at hn; omega
  obtain ⟨n, hnn⟩ : ∃ n, n = L.length := ⟨_, rfl⟩
  rw [← hnn] at hn' ⊢
  have HN := Lib.hid hnn
  clear hnn
  go_enter Try.func33, Try.ntmps33
  go_wp2
  go_loopw [13] (fun y wr => ∃ j : Nat, j ≤ n ∧ y = .int .i64 (j : Int) ∧ Since w wr) (fun y _ => n - (intOf y).toNat)
  case atStart => exact ⟨0, by omega, rfl, Since.refl _⟩
  case round =>
    obtain ⟨j, hj, rfl, hSr⟩ := hrel
    by_cases hjn : j < n
    · have hjn' : (j : Int) < n := by omega
      have hnn := HN.out
      obtain ⟨b, o, rfl, hb, hc⟩ := h1 (by omega)
      obtain ⟨b', o', rfl, hb', hc'⟩ := h2 (by omega)
      obtain ⟨p, hp⟩ : ∃ p, L[j]? = some p := ⟨_, List.getElem?_eq_getElem (by omega)⟩
      obtain ⟨x, y⟩ := p
      have c1 := (hSr.1 _ _ hb).trans (hc j _ hp 0 (by omega))
      have c2 := (hSr.1 _ _ hb).trans (hc j _ hp 1 (by omega))
      have e1 := (hSr.1 _ _ hb').trans (hc' j _ hp 0 (by omega))
      have e2 := (hSr.1 _ _ hb').trans (hc' j _ hp 1 (by omega))
      simp only [ptL, List.getD_cons_succ, List.getD_cons_zero, Nat.add_zero] at c1 c2 e1 e2
      have hj0 : (0 : Int) ≤ j := by omega
      clear hc hc' h1 h2 hnn hp
      go_wp2_with fail
      go_quiet (fail)
      go_wp2
      refine ⟨⟨j + 1, by omega, by simp, by (repeat (first | with_reducible (exact Since.refl _) | with_reducible assumption | with_reducible (refine Since.drew ?_) | with_reducible (refine Since.drewN ?_ _) | with_reducible (refine Since.alloc ?_ _) | (with_reducible (refine Since.setCell ?_ ?_ _); rotate_left; focus (first | (simp; done) | (simp; omega) | omega)) | (with_reducible (refine Since.trans ?_ (by with_reducible assumption)))))⟩, by simp [intOf]; omega⟩
    · obtain rfl : j = n := by omega
      clear h1 h2
      go_wp2
      go_ret
      exact ⟨rfl, hSr⟩
end Go.Proofs.Ytdbenpncnkfliaa

/-
  Layer 14: the document's examples.
-/
namespace Go.Proofs.Ytdbenpncnkfliaa
open Go.RowKit Go.ChangeShapes Go.WideShapes Go.Deep
set_option linter.unusedVariables false

def sqK : List Kt := [⟨0, 0, true⟩, ⟨64, 0, true⟩, ⟨64, 64, true⟩, ⟨0, 64, true⟩]
def sqL : List Lq := [⟨0, 0, 64, 0⟩, ⟨64, 0, 64, 64⟩, ⟨64, 64, 0, 64⟩, ⟨0, 64, 0, 0⟩]
abbrev sqC : Array Value := #[.int .i64 0, .int .i64 0, .bool true, .int .i64 64, .int .i64 0, .bool true, .int .i64 64, .int .i64 64, .bool true, .int .i64 0, .int .i64 64, .bool true]
theorem sq_e : linesE [sqK] = 0 := by kernel_rfl
theorem sq_l : linesL [sqK] = sqL := by kernel_rfl
theorem sq_c : closedB sqL = true := by kernel_rfl
theorem sq_t : closedB (sqL.drop 1) = false := by kernel_rfl
def bent : Sg := ⟨0, 0, 1000, 0, 1000, 1000, true⟩
def bentP : List Pq := [⟨0, 0⟩, ⟨438, 63⟩, ⟨750, 250⟩, ⟨938, 563⟩, ⟨1000, 1000⟩]
theorem bent_p : ptsN bent (stN bent) (2 ^ stN bent + 1) = bentP := by kernel_rfl
theorem wf_small {x : Int} (h : -1000000 ≤ x ∧ x ≤ 1000000) : (Lit.int .i64 x).wf = true := WalkArith.wf_i64 (by omega)
theorem sq_wf : ∀ x ∈ sqL, wfLq x := by
  intro x hx
  simp only [sqL, List.mem_cons, List.not_mem_nil, or_false] at hx
  rcases hx with rfl | rfl | rfl | rfl <;> exact ⟨⟨wf_small (by decide), wf_small (by decide)⟩, wf_small (by decide), wf_small (by decide)⟩
theorem sq_wft : ∀ x ∈ sqL.drop 1, wfLq x := fun x hx => sq_wf x (List.mem_of_mem_drop hx)
theorem al_lines (w : World) (t t' : TypeId) (b b' : Nat) (hb : b = w.heap.size) (hb' : b' = w.heap.size + 1) :
    Calls Try.prog 35 #[.slice (some ⟨b', 0, none⟩) 1 1] ((w.alloc (.cells sqC t)).alloc (.cells #[.slice (some ⟨b, 0, none⟩) 4 4] t')) fun e w' => ∃ b5 o5 c5, e = .returned (.tuple #[.slice (some ⟨b5, o5, none⟩) 4 c5, .int .i64 0]) ∧ RdG 4 lnL w' w'.heap.size (some ⟨b5, o5, none⟩) sqL ∧ 4 ≤ c5 ∧ Since ((w.alloc (.cells sqC t)).alloc (.cells #[.slice (some ⟨b, 0, none⟩) 4 4] t')) w' := by
  have h1 : RdG 3 knL (w.alloc (.cells sqC t)) (w.alloc (.cells sqC t)).heap.size (some ⟨b, 0, none⟩) sqK := rdG_lit hb sqK (fun j s hj i hi => by
    have hi' : i = 0 ∨ i = 1 ∨ i = 2 := by omega
    match j, hj with
    | 0, hj => simp only [sqK, List.getElem?_cons_zero, Option.some.injEq] at hj; subst hj; rcases hi' with rfl | rfl | rfl <;> rfl
    | 1, hj => simp only [sqK, List.getElem?_cons_zero, List.getElem?_cons_succ, Option.some.injEq] at hj; subst hj; rcases hi' with rfl | rfl | rfl <;> rfl
    | 2, hj => simp only [sqK, List.getElem?_cons_zero, List.getElem?_cons_succ, Option.some.injEq] at hj; subst hj; rcases hi' with rfl | rfl | rfl <;> rfl
    | 3, hj => simp only [sqK, List.getElem?_cons_zero, List.getElem?_cons_succ, Option.some.injEq] at hj; subst hj; rcases hi' with rfl | rfl | rfl <;> rfl
    | j + 4, hj => simp [sqK] at hj)
  have h2 : RdG 1 hdL ((w.alloc (.cells sqC t)).alloc (.cells #[.slice (some ⟨b, 0, none⟩) 4 4] t')) ((w.alloc (.cells sqC t)).alloc (.cells #[.slice (some ⟨b, 0, none⟩) 4 4] t')).heap.size (some ⟨b', 0, none⟩) [⟨some ⟨b, 0, none⟩, 4, 4⟩] := rdG_one (by simp [hb']) _ (fun i hi => by
    obtain rfl : i = 0 := by omega
    rfl)
  have h3 : RdOL ((w.alloc (.cells sqC t)).alloc (.cells #[.slice (some ⟨b, 0, none⟩) 4 4] t')) ((w.alloc (.cells sqC t)).alloc (.cells #[.slice (some ⟨b, 0, none⟩) 4 4] t')).heap.size (some ⟨b', 0, none⟩) [sqK] := ⟨_, rfl, h2, fun j x L hx hL => by
    match j, hx with
    | 0, hx =>
      simp only [List.getElem?_cons_zero, Option.some.injEq] at hx hL
      subst hx hL
      exact ⟨rfl, h1.on ((Since.refl _).alloc _)⟩
    | j + 1, hx => simp at hx⟩
  have h := fa_lines (some ⟨b', 0, none⟩) 1 [sqK] _ h3 (by decide) (by intro L hL; simp only [List.mem_singleton] at hL; subst hL; decide) (by
    intro L hL k hk
    simp only [List.mem_singleton] at hL
    subst hL
    simp only [sqK, List.mem_cons, List.not_mem_nil, or_false] at hk
    rcases hk with rfl | rfl | rfl | rfl <;> (unfold InP In64; decide))
  refine h.mono ?_
  rintro e w' ⟨v, rfl, hO, hS⟩
  rw [sq_l] at hO
  rw [sq_e]
  obtain ⟨A, c, rfl, hc, hr⟩ := OwnG.rd (by omega) lnL_len hO
  obtain ⟨b5, o5, rfl, hb5, hc5⟩ := id (hr (by decide))
  exact ⟨b5, o5, c, rfl, hr, hc, hS⟩
theorem al_piece (w : World) : Calls Try.prog 31 #[.agg #[.int .i64 0, .int .i64 0, .int .i64 1000, .int .i64 0, .int .i64 1000, .int .i64 1000, .bool true]] w fun e w' => ∃ A c, e = .returned (.tuple #[.slice A 5 c, .int .i64 0]) ∧ RdG 2 ptL w' w'.heap.size A bentP ∧ Since w w' := by
  have h := fa_piece_yes bent ⟨by unfold InP In64 bent; decide, by unfold InP In64 bent; decide, by unfold InP In64 bent; decide⟩ w (by decide)
  refine h.mono ?_
  rintro e w' ⟨v, rfl, hO, hS⟩
  rw [bent_p] at hO
  obtain ⟨A, c, rfl, hc, hr⟩ := OwnG.rd (by omega) ptL_len hO
  exact ⟨A, c, rfl, hr, hS⟩
theorem al_ptslit (w : World) (b : Nat) (hb : b = w.heap.size) (t : TypeId) : RdG 2 ptL (w.alloc (.cells #[.int .i64 0, .int .i64 0, .int .i64 438, .int .i64 63, .int .i64 750, .int .i64 250, .int .i64 938, .int .i64 563, .int .i64 1000, .int .i64 1000] t)) (w.alloc (.cells #[.int .i64 0, .int .i64 0, .int .i64 438, .int .i64 63, .int .i64 750, .int .i64 250, .int .i64 938, .int .i64 563, .int .i64 1000, .int .i64 1000] t)).heap.size (some ⟨b, 0, none⟩) bentP := rdG_lit hb bentP (fun j s hj i hi => by
    have hi' : i = 0 ∨ i = 1 := by omega
    match j, hj with
    | 0, hj => simp only [bentP, List.getElem?_cons_zero, Option.some.injEq] at hj; subst hj; rcases hi' with rfl | rfl <;> rfl
    | 1, hj => simp only [bentP, List.getElem?_cons_zero, List.getElem?_cons_succ, Option.some.injEq] at hj; subst hj; rcases hi' with rfl | rfl <;> rfl
    | 2, hj => simp only [bentP, List.getElem?_cons_zero, List.getElem?_cons_succ, Option.some.injEq] at hj; subst hj; rcases hi' with rfl | rfl <;> rfl
    | 3, hj => simp only [bentP, List.getElem?_cons_zero, List.getElem?_cons_succ, Option.some.injEq] at hj; subst hj; rcases hi' with rfl | rfl <;> rfl
    | 4, hj => simp only [bentP, List.getElem?_cons_zero, List.getElem?_cons_succ, Option.some.injEq] at hj; subst hj; rcases hi' with rfl | rfl <;> rfl
    | j + 5, hj => simp [bentP] at hj)
theorem al_c1 (b o c : Nat) (w : World) (h : RdG 4 lnL w w.heap.size (some ⟨b, o, none⟩) sqL) : Calls Try.prog 38 #[.slice (some ⟨b, o, none⟩) 4 c] w fun e w' => e = .returned (.bool true) ∧ Since w w' := by
  have k := fa_closed _ sqL c w h (by decide) sq_wf
  rw [sq_c] at k
  exact k
theorem al_c2 (b o c : Nat) (w : World) (h : RdG 4 lnL w w.heap.size (some ⟨b, o, none⟩) sqL) : Calls Try.prog 38 #[.slice (some ⟨b, o + 4, none⟩) 3 c] w fun e w' => e = .returned (.bool false) ∧ Since w w' := by
  have k := fa_closed _ (sqL.drop 1) c w (h.drop 1) (by decide) sq_wft
  rw [sq_t] at k
  exact k
theorem al_same (A B : Option Addr) (c d : Nat) (w : World) (h1 : RdG 2 ptL w w.heap.size A bentP) (h2 : RdG 2 ptL w w.heap.size B bentP) :
    Calls Try.prog 33 #[.slice A 5 c, .slice B 5 d] w fun e w' => e = .returned (.bool true) ∧ Since w w' := rf_sameP A B bentP c d w h1 h2 (by decide)
set_option maxRecDepth 100000 in
set_option maxHeartbeats 8000000 in
theorem alive14 (w : World) : Calls Try.prog 30 #[] w fun e w' => e = .returned (.bool true) ∧ Since w w' := by
  go_enter Try.func30, Try.ntmps30
  go_wp2_with (first | (go_at_call 35; (with_reducible refine (al_lines _ _ _ _ _ rfl (by simp)).mono ?_); rintro e w1 ⟨b5, o5, c5, rfl, hR1, hc5, hS1⟩; have hT1 : Since w w1 := (by (repeat (first | with_reducible (exact Since.refl _) | with_reducible assumption | with_reducible (refine Since.drew ?_) | with_reducible (refine Since.drewN ?_ _) | with_reducible (refine Since.alloc ?_ _) | (with_reducible (refine Since.setCell ?_ ?_ _); rotate_left; focus (first | (simp; done) | (simp; omega) | omega)) | (with_reducible (refine Since.trans ?_ (by with_reducible assumption)))))); clear hS1; have k5 : ¬ c5 = 1 := (by omega); have k6 : (1 : Int) ≤ (c5 : Int) := (by omega); have k7 : (4 : Int) ≤ (c5 : Int) := (by omega)) | (go_at_call 31; (with_reducible refine (al_piece _).mono ?_); rintro e w2 ⟨A6, c6, rfl, hP2, hS2⟩; have hR2 := hR1.on hS2; have hT2 := hT1.trans hS2; clear hR1 hT1 hS2) | (go_at_call 38; (with_reducible refine (al_c1 _ _ _ _ hR2).mono ?_); rintro e w3 ⟨rfl, hS3⟩; have hR3 := hR2.on hS3; have hP3 := hP2.on hS3; have hT3 := hT2.trans hS3; clear hR2 hP2 hT2 hS3) | (go_at_call 38; (with_reducible refine (al_c2 _ _ _ _ hR3).mono ?_); rintro e w4 ⟨rfl, hS4⟩; have hP4 := hP3.on hS4; have hT4 := hT3.trans hS4; clear hR3 hP3 hT3 hS4) | (go_at_call 33; (with_reducible refine (al_same _ _ _ _ _ (hP4.on ((Since.refl _).alloc _)) (al_ptslit _ _ rfl _)).mono ?_); rintro e w7 ⟨rfl, hS7⟩; have hT7 := (hT4.alloc _).trans hS7))
  go_ret
  exact ⟨by first | rfl | simp, hT7⟩
end Go.Proofs.Ytdbenpncnkfliaa

/-
  Layer 14: the reference's 'Closed', walked.
-/
namespace Go.Proofs.Ytdbenpncnkfliaa
open Go.RowKit Go.ChangeShapes Go.WideShapes Go.Deep
set_option linter.unusedVariables false

@[go_sem] theorem iy0m (a b c d : Value) (w : World) : (Instr.index 87 (.agg #[a, b, c, d]) (.int .i64 0)).run Try.prog w = .ok (.agg #[a, b]) w := by rfl
@[go_sem] theorem iy1m (a b c d : Value) (w : World) : (Instr.index 87 (.agg #[a, b, c, d]) (.int .i64 1)).run Try.prog w = .ok (.agg #[c, d]) w := by rfl
set_option maxRecDepth 100000 in
set_option maxHeartbeats 8000000 in
theorem rf_closed (A : Option Addr) (L : List Lq) (c : Nat) (w : World) (h : RdG 4 lnL w w.heap.size A L) (hL : L.length ≤ 1000000) :
    Calls Try.prog 39 #[.slice A L.length c] w fun e w' => e = .returned (.bool (closedB L)) ∧ Since w w' := by
  obtain ⟨n, hn⟩ : ∃ n, n = L.length := ⟨_, rfl⟩
  rw [← hn] at hL ⊢
  have H := Lib.hid h
  have HN := Lib.hid hn
  clear h hn
  go_enter Try.func39, Try.ntmps39
  go_wp2_with fail
  go_loopw [12] (fun y wr => ∃ j : Nat, j ≤ n ∧ y = .int .i64 (j : Int) ∧ Since w wr ∧ ∀ (i : Nat) (x : Lq), i < j → L[i]? = some x → chkL L x = true) (fun y _ => n - (intOf y).toNat)
  case atStart => exact ⟨0, by omega, rfl, Since.refl _, fun i x hi => by omega⟩
  case round =>
    obtain ⟨j, hj, rfl, hSr, hA⟩ := hrel
    by_cases hjn : j < n
    · have hjn' : (j : Int) < n := by omega
      have hnn := HN.out
      obtain ⟨b, o, rfl, hb, hc⟩ := H.out (by omega)
      obtain ⟨p, hp⟩ : ∃ p, L[j]? = some p := ⟨_, List.getElem?_eq_getElem (by omega)⟩
      obtain ⟨ax, ay, bx, bz⟩ := p
      have c1 := (hSr.1 _ _ hb).trans (hc j _ hp 0 (by omega))
      have c2 := (hSr.1 _ _ hb).trans (hc j _ hp 1 (by omega))
      have c3 := (hSr.1 _ _ hb).trans (hc j _ hp 2 (by omega))
      have c4 := (hSr.1 _ _ hb).trans (hc j _ hp 3 (by omega))
      simp only [lnL, List.getD_cons_succ, List.getD_cons_zero, Nat.add_zero] at c1 c2 c3 c4
      have hj0 : (0 : Int) ≤ j := by omega
      have u1 : IntKind.i64.wrap ((j : Int) + 1) = (j : Int) + 1 := IntWalk.i64_in _ (by omega)
      have HC := Lib.hid hc
      have HP := Lib.hid hp
      have HA := Lib.hid hA
      have HSR := Lib.hid hSr
      have hck : chkL L ⟨ax, ay, bx, bz⟩ = (cntL L ⟨ax, ay⟩ == 0 && cntL L ⟨bx, bz⟩ == 0) := rfl
      have HCK := Lib.hid hck
      clear hc hp hnn hA hck
      go_wp2_with fail
      refine wp_named fun wz hwz => ?_
      have hSz : Since w wz := by subst hwz; exact HSR.out.alloc _
      clear hwz c1 c2 c3 c4
      go_loopw [21] (fun y wm => Since w wm ∧ (y = .int .i64 0 ∨ (y = .int .i64 1 ∧ cntL L ⟨ax, ay⟩ = 0) ∨ (y = .int .i64 2 ∧ cntL L ⟨ax, ay⟩ = 0 ∧ cntL L ⟨bx, bz⟩ = 0))) (fun y _ => 2 - (intOf y).toNat)
      case atStart => exact ⟨hSz, .inl rfl⟩
      case round =>
        obtain ⟨hSm, rfl | ⟨rfl, hz1⟩ | ⟨rfl, hz1, hz2⟩⟩ := hrel
        · clear hSz
          go_upto_region 9 with fail
          refine wp_named fun wn hwn => ?_
          have hSn : Since wr wn := by subst hwn; exact (Since.refl wr).alloc _
          have p1 : wn.cell? ⟨wr.heap.size, 0, none⟩ = some (.int .i64 ax) := by subst hwn; simp
          have p2 : wn.cell? ⟨wr.heap.size, 1, none⟩ = some (.int .i64 ay) := by subst hwn; simp
          have hrl : wr.heap.size < wn.heap.size := by subst hwn; simp
          clear hwn
          have HSN := Lib.hid (hSm.trans hSn)
          clear hSm hSn
          obtain ⟨r, hr0⟩ : ∃ r, r = wr.heap.size := ⟨_, rfl⟩
          rw [← hr0] at p1 p2 hrl ⊢
          clear hr0
          go_loopw [7, 26] (fun z y wi => ∃ k : Nat, k ≤ n ∧ y = .int .i64 (k : Int) ∧ z = .int .i64 (cntJ L ⟨ax, ay⟩ k) ∧ Since wn wi) (fun _ y _ => n - (intOf y).toNat)
          case atStart => exact ⟨0, by omega, rfl, rfl, Since.refl _⟩
          case round =>
            obtain ⟨k, hk, rfl, rfl, hSi⟩ := hrel
            by_cases hkn : k < n
            · have hkn' : (k : Int) < n := by omega
              have hnn := HN.out
              obtain ⟨y, hy⟩ : ∃ y, L[k]? = some y := ⟨_, List.getElem?_eq_getElem (by omega)⟩
              obtain ⟨ex, ey, fx, fy⟩ := y
              have hSw := HSN.out.trans hSi
              have d1 := (hSw.1 _ _ hb).trans (HC.out k _ hy 0 (by omega))
              have d2 := (hSw.1 _ _ hb).trans (HC.out k _ hy 1 (by omega))
              have d3 := (hSw.1 _ _ hb).trans (HC.out k _ hy 2 (by omega))
              have d4 := (hSw.1 _ _ hb).trans (HC.out k _ hy 3 (by omega))
              simp only [lnL, List.getD_cons_succ, List.getD_cons_zero, Nat.add_zero] at d1 d2 d3 d4
              have g1 := (hSi.1 _ _ hrl).trans p1
              have g2 := (hSi.1 _ _ hrl).trans p2
              have hrw : r < wr.heap.size := hSi.2.2.1 _ hrl
              have hq0 := cntJ_in L ⟨ax, ay⟩ k
              have hst := cntJ_step L ⟨ax, ay⟩ k _ hy
              simp only at hst
              have HSI := Lib.hid hSi
              generalize cntJ L ⟨ax, ay⟩ k = qq at *
              have w1 : IntKind.i64.wrap (qq + 1) = qq + 1 := IntWalk.i64_in _ (by omega)
              have w2 : IntKind.i64.wrap (qq - 1) = qq - 1 := IntWalk.i64_in _ (by omega)
              have w3 : IntKind.i64.wrap (qq + 1 - 1) = qq + 1 - 1 := IntWalk.i64_in _ (by omega)
              have w5 : wrap64 qq = qq := by unfold wrap64; omega
              have v1 : IntKind.i64.wrap ((k : Int) + 1) = (k : Int) + 1 := IntWalk.i64_in _ (by omega)
              have hk0 : (0 : Int) ≤ k := by omega
              clear hy hnn hSw p1 p2 hrl hSi hq0
              have hw4 : qq + 1 - 1 = qq := by omega
              have HW4 := Lib.hid hw4
              clear hw4
              rcases cnt_cases ex ey ax ay with h1 | ⟨e0, h1⟩ | ⟨e0, h1⟩ <;> rcases cnt_cases fx fy ax ay with h2 | ⟨f0, h2⟩ | ⟨f0, h2⟩
              · rw [if_pos h1] at hst
                rw [if_pos h2] at hst
                have HQ := Lib.hid hst
                clear hst
                obtain ⟨rfl, rfl⟩ := h1
                obtain ⟨rfl, rfl⟩ := h2
                go_wp2_with fail
                go_roundw
                case rel => exact ⟨k + 1, by omega, by go_num, by rw [HQ.out]; first | rfl | (congr 1; omega) | simp [w5], HSI.out.alloc _⟩
                case measure => simp [intOf]; omega
              · rw [if_pos h1] at hst
                rw [if_neg f0] at hst
                have HQ := Lib.hid hst
                clear hst
                obtain ⟨rfl, rfl⟩ := h1
                obtain ⟨rfl, f1, f2⟩ := h2
                clear f0
                go_wp2_with fail
                go_roundw
                case rel => exact ⟨k + 1, by omega, by go_num, by rw [HQ.out]; first | rfl | (congr 1; omega) | simp [w5], HSI.out.alloc _⟩
                case measure => simp [intOf]; omega
              · rw [if_pos h1] at hst
                rw [if_neg f0] at hst
                have HQ := Lib.hid hst
                clear hst
                obtain ⟨rfl, rfl⟩ := h1
                obtain ⟨f1, f2⟩ := h2
                clear f0
                go_wp2_with fail
                go_roundw
                case rel => exact ⟨k + 1, by omega, by go_num, by rw [HQ.out]; first | rfl | (congr 1; omega) | simp [w5], HSI.out.alloc _⟩
                case measure => simp [intOf]; omega
              · rw [if_neg e0] at hst
                rw [if_pos h2] at hst
                have HQ := Lib.hid hst
                clear hst
                obtain ⟨rfl, e1, e2⟩ := h1
                obtain ⟨rfl, rfl⟩ := h2
                clear e0
                go_wp2_with fail
                go_roundw
                case rel => exact ⟨k + 1, by omega, by go_num, by rw [HQ.out]; first | rfl | (congr 1; omega) | simp [w5], HSI.out.alloc _⟩
                case measure => simp [intOf]; omega
              · rw [if_neg e0] at hst
                rw [if_neg f0] at hst
                have HQ := Lib.hid hst
                clear hst
                obtain ⟨rfl, e1, e2⟩ := h1
                obtain ⟨rfl, f1, f2⟩ := h2
                clear e0
                clear f0
                go_wp2_with fail
                go_roundw
                case rel => exact ⟨k + 1, by omega, by go_num, by rw [HQ.out]; first | rfl | (congr 1; omega) | simp [w5], HSI.out.alloc _⟩
                case measure => simp [intOf]; omega
              · rw [if_neg e0] at hst
                rw [if_neg f0] at hst
                have HQ := Lib.hid hst
                clear hst
                obtain ⟨rfl, e1, e2⟩ := h1
                obtain ⟨f1, f2⟩ := h2
                clear e0
                clear f0
                go_wp2_with fail
                go_roundw
                case rel => exact ⟨k + 1, by omega, by go_num, by rw [HQ.out]; first | rfl | (congr 1; omega) | simp [w5], HSI.out.alloc _⟩
                case measure => simp [intOf]; omega
              · rw [if_neg e0] at hst
                rw [if_pos h2] at hst
                have HQ := Lib.hid hst
                clear hst
                obtain ⟨e1, e2⟩ := h1
                obtain ⟨rfl, rfl⟩ := h2
                clear e0
                go_wp2_with fail
                go_roundw
                case rel => exact ⟨k + 1, by omega, by go_num, by rw [HQ.out]; first | rfl | (congr 1; omega) | simp [w5], HSI.out.alloc _⟩
                case measure => simp [intOf]; omega
              · rw [if_neg e0] at hst
                rw [if_neg f0] at hst
                have HQ := Lib.hid hst
                clear hst
                obtain ⟨e1, e2⟩ := h1
                obtain ⟨rfl, f1, f2⟩ := h2
                clear e0
                clear f0
                go_wp2_with fail
                go_roundw
                case rel => exact ⟨k + 1, by omega, by go_num, by rw [HQ.out]; first | rfl | (congr 1; omega) | simp [w5], HSI.out.alloc _⟩
                case measure => simp [intOf]; omega
              · rw [if_neg e0] at hst
                rw [if_neg f0] at hst
                have HQ := Lib.hid hst
                clear hst
                obtain ⟨e1, e2⟩ := h1
                obtain ⟨f1, f2⟩ := h2
                clear e0
                clear f0
                go_wp2_with fail
                go_roundw
                case rel => exact ⟨k + 1, by omega, by go_num, by rw [HQ.out]; first | rfl | (congr 1; omega) | simp [w5], HSI.out.alloc _⟩
                case measure => simp [intOf]; omega
            · obtain rfl : k = n := by omega
              have hcl : cntJ L ⟨ax, ay⟩ k = cntL L ⟨ax, ay⟩ := by unfold cntL; rw [← HN.out]
              rw [hcl]
              have HSF := Lib.hid (HSN.out.trans hSi)
              clear hcl hSi p1 p2 hrl
              by_cases hzz : cntL L ⟨ax, ay⟩ = 0
              · rw [hzz]
                have HZZ := Lib.hid hzz
                clear hzz
                go_wp2_with fail
                go_roundw
                case rel => exact ⟨HSF.out, .inr (.inl ⟨rfl, HZZ.out⟩)⟩
                case measure => simp [intOf]
              · have hz3 : (cntL L ⟨ax, ay⟩ == 0) = false := by simp [hzz]
                have e : closedB L = false := closed_not L j _ HP.out (by rw [HCK.out, hz3]; simp)
                have E := Lib.hid e
                clear e
                generalize cntL L ⟨ax, ay⟩ = qz at *
                go_wp2_with fail
                go_ret
                exact ⟨by rw [E.out]; rfl, HSF.out⟩
        · clear hSz
          go_upto_region 9 with fail
          refine wp_named fun wn hwn => ?_
          have hSn : Since wr wn := by subst hwn; exact (Since.refl wr).alloc _
          have p1 : wn.cell? ⟨wr.heap.size, 0, none⟩ = some (.int .i64 bx) := by subst hwn; simp
          have p2 : wn.cell? ⟨wr.heap.size, 1, none⟩ = some (.int .i64 bz) := by subst hwn; simp
          have hrl : wr.heap.size < wn.heap.size := by subst hwn; simp
          clear hwn
          have HSN := Lib.hid (hSm.trans hSn)
          clear hSm hSn
          obtain ⟨r, hr0⟩ : ∃ r, r = wr.heap.size := ⟨_, rfl⟩
          rw [← hr0] at p1 p2 hrl ⊢
          clear hr0
          go_loopw [7, 26] (fun z y wi => ∃ k : Nat, k ≤ n ∧ y = .int .i64 (k : Int) ∧ z = .int .i64 (cntJ L ⟨bx, bz⟩ k) ∧ Since wn wi) (fun _ y _ => n - (intOf y).toNat)
          case atStart => exact ⟨0, by omega, rfl, rfl, Since.refl _⟩
          case round =>
            obtain ⟨k, hk, rfl, rfl, hSi⟩ := hrel
            by_cases hkn : k < n
            · have hkn' : (k : Int) < n := by omega
              have hnn := HN.out
              obtain ⟨y, hy⟩ : ∃ y, L[k]? = some y := ⟨_, List.getElem?_eq_getElem (by omega)⟩
              obtain ⟨ex, ey, fx, fy⟩ := y
              have hSw := HSN.out.trans hSi
              have d1 := (hSw.1 _ _ hb).trans (HC.out k _ hy 0 (by omega))
              have d2 := (hSw.1 _ _ hb).trans (HC.out k _ hy 1 (by omega))
              have d3 := (hSw.1 _ _ hb).trans (HC.out k _ hy 2 (by omega))
              have d4 := (hSw.1 _ _ hb).trans (HC.out k _ hy 3 (by omega))
              simp only [lnL, List.getD_cons_succ, List.getD_cons_zero, Nat.add_zero] at d1 d2 d3 d4
              have g1 := (hSi.1 _ _ hrl).trans p1
              have g2 := (hSi.1 _ _ hrl).trans p2
              have hrw : r < wr.heap.size := hSi.2.2.1 _ hrl
              have hq0 := cntJ_in L ⟨bx, bz⟩ k
              have hst := cntJ_step L ⟨bx, bz⟩ k _ hy
              simp only at hst
              have HSI := Lib.hid hSi
              generalize cntJ L ⟨bx, bz⟩ k = qq at *
              have w1 : IntKind.i64.wrap (qq + 1) = qq + 1 := IntWalk.i64_in _ (by omega)
              have w2 : IntKind.i64.wrap (qq - 1) = qq - 1 := IntWalk.i64_in _ (by omega)
              have w3 : IntKind.i64.wrap (qq + 1 - 1) = qq + 1 - 1 := IntWalk.i64_in _ (by omega)
              have w5 : wrap64 qq = qq := by unfold wrap64; omega
              have v1 : IntKind.i64.wrap ((k : Int) + 1) = (k : Int) + 1 := IntWalk.i64_in _ (by omega)
              have hk0 : (0 : Int) ≤ k := by omega
              clear hy hnn hSw p1 p2 hrl hSi hq0
              have hw4 : qq + 1 - 1 = qq := by omega
              have HW4 := Lib.hid hw4
              clear hw4
              rcases cnt_cases ex ey bx bz with h1 | ⟨e0, h1⟩ | ⟨e0, h1⟩ <;> rcases cnt_cases fx fy bx bz with h2 | ⟨f0, h2⟩ | ⟨f0, h2⟩
              · rw [if_pos h1] at hst
                rw [if_pos h2] at hst
                have HQ := Lib.hid hst
                clear hst
                obtain ⟨rfl, rfl⟩ := h1
                obtain ⟨rfl, rfl⟩ := h2
                go_wp2_with fail
                go_roundw
                case rel => exact ⟨k + 1, by omega, by go_num, by rw [HQ.out]; first | rfl | (congr 1; omega) | simp [w5], HSI.out.alloc _⟩
                case measure => simp [intOf]; omega
              · rw [if_pos h1] at hst
                rw [if_neg f0] at hst
                have HQ := Lib.hid hst
                clear hst
                obtain ⟨rfl, rfl⟩ := h1
                obtain ⟨rfl, f1, f2⟩ := h2
                clear f0
                go_wp2_with fail
                go_roundw
                case rel => exact ⟨k + 1, by omega, by go_num, by rw [HQ.out]; first | rfl | (congr 1; omega) | simp [w5], HSI.out.alloc _⟩
                case measure => simp [intOf]; omega
              · rw [if_pos h1] at hst
                rw [if_neg f0] at hst
                have HQ := Lib.hid hst
                clear hst
                obtain ⟨rfl, rfl⟩ := h1
                obtain ⟨f1, f2⟩ := h2
                clear f0
                go_wp2_with fail
                go_roundw
                case rel => exact ⟨k + 1, by omega, by go_num, by rw [HQ.out]; first | rfl | (congr 1; omega) | simp [w5], HSI.out.alloc _⟩
                case measure => simp [intOf]; omega
              · rw [if_neg e0] at hst
                rw [if_pos h2] at hst
                have HQ := Lib.hid hst
                clear hst
                obtain ⟨rfl, e1, e2⟩ := h1
                obtain ⟨rfl, rfl⟩ := h2
                clear e0
                go_wp2_with fail
                go_roundw
                case rel => exact ⟨k + 1, by omega, by go_num, by rw [HQ.out]; first | rfl | (congr 1; omega) | simp [w5], HSI.out.alloc _⟩
                case measure => simp [intOf]; omega
              · rw [if_neg e0] at hst
                rw [if_neg f0] at hst
                have HQ := Lib.hid hst
                clear hst
                obtain ⟨rfl, e1, e2⟩ := h1
                obtain ⟨rfl, f1, f2⟩ := h2
                clear e0
                clear f0
                go_wp2_with fail
                go_roundw
                case rel => exact ⟨k + 1, by omega, by go_num, by rw [HQ.out]; first | rfl | (congr 1; omega) | simp [w5], HSI.out.alloc _⟩
                case measure => simp [intOf]; omega
              · rw [if_neg e0] at hst
                rw [if_neg f0] at hst
                have HQ := Lib.hid hst
                clear hst
                obtain ⟨rfl, e1, e2⟩ := h1
                obtain ⟨f1, f2⟩ := h2
                clear e0
                clear f0
                go_wp2_with fail
                go_roundw
                case rel => exact ⟨k + 1, by omega, by go_num, by rw [HQ.out]; first | rfl | (congr 1; omega) | simp [w5], HSI.out.alloc _⟩
                case measure => simp [intOf]; omega
              · rw [if_neg e0] at hst
                rw [if_pos h2] at hst
                have HQ := Lib.hid hst
                clear hst
                obtain ⟨e1, e2⟩ := h1
                obtain ⟨rfl, rfl⟩ := h2
                clear e0
                go_wp2_with fail
                go_roundw
                case rel => exact ⟨k + 1, by omega, by go_num, by rw [HQ.out]; first | rfl | (congr 1; omega) | simp [w5], HSI.out.alloc _⟩
                case measure => simp [intOf]; omega
              · rw [if_neg e0] at hst
                rw [if_neg f0] at hst
                have HQ := Lib.hid hst
                clear hst
                obtain ⟨e1, e2⟩ := h1
                obtain ⟨rfl, f1, f2⟩ := h2
                clear e0
                clear f0
                go_wp2_with fail
                go_roundw
                case rel => exact ⟨k + 1, by omega, by go_num, by rw [HQ.out]; first | rfl | (congr 1; omega) | simp [w5], HSI.out.alloc _⟩
                case measure => simp [intOf]; omega
              · rw [if_neg e0] at hst
                rw [if_neg f0] at hst
                have HQ := Lib.hid hst
                clear hst
                obtain ⟨e1, e2⟩ := h1
                obtain ⟨f1, f2⟩ := h2
                clear e0
                clear f0
                go_wp2_with fail
                go_roundw
                case rel => exact ⟨k + 1, by omega, by go_num, by rw [HQ.out]; first | rfl | (congr 1; omega) | simp [w5], HSI.out.alloc _⟩
                case measure => simp [intOf]; omega
            · obtain rfl : k = n := by omega
              have hcl : cntJ L ⟨bx, bz⟩ k = cntL L ⟨bx, bz⟩ := by unfold cntL; rw [← HN.out]
              rw [hcl]
              have HSF := Lib.hid (HSN.out.trans hSi)
              clear hcl hSi p1 p2 hrl
              by_cases hzz : cntL L ⟨bx, bz⟩ = 0
              · rw [hzz]
                have HZZ := Lib.hid hzz
                clear hzz
                go_wp2_with fail
                go_roundw
                case rel => exact ⟨HSF.out, .inr (.inr ⟨rfl, hz1, HZZ.out⟩)⟩
                case measure => simp [intOf]
              · have hz3 : (cntL L ⟨bx, bz⟩ == 0) = false := by simp [hzz]
                have e : closedB L = false := closed_not L j _ HP.out (by rw [HCK.out, hz3]; simp)
                have E := Lib.hid e
                clear e
                generalize cntL L ⟨bx, bz⟩ = qz at *
                go_wp2_with fail
                go_ret
                exact ⟨by rw [E.out]; rfl, HSF.out⟩
        · have HZ := Lib.hid (And.intro hz1 hz2)
          clear hz1 hz2 hSz
          go_wp2_with fail
          go_roundw
          case rel =>
            refine ⟨j + 1, by omega, by go_num, hSm, fun i x hi hx => ?_⟩
            rcases Nat.lt_or_ge i j with k | k
            · exact HA.out i x k hx
            · obtain rfl : i = j := by omega
              rw [HP.out] at hx
              obtain rfl := Option.some.inj hx
              rw [HCK.out, HZ.out.1, HZ.out.2]
              rfl
          case measure => simp [intOf]; omega
    · obtain rfl : j = n := by omega
      have e : closedB L = true := closed_all L (fun i x hi => hA i x (by
        have hnn := HN.out
        rcases Nat.lt_or_ge i L.length with k | k
        · omega
        · rw [List.getElem?_eq_none k] at hi; cases hi) hi)
      have E := Lib.hid e
      clear e hA
      go_wp2_with fail
      go_ret
      exact ⟨by rw [E.out]; rfl, hSr⟩
end Go.Proofs.Ytdbenpncnkfliaa

/-
  Layer 14: the reference's 'Same', of the same lines.
-/
namespace Go.Proofs.Ytdbenpncnkfliaa
open Go.RowKit Go.ChangeShapes Go.WideShapes Go.Deep
set_option linter.unusedVariables false

set_option maxRecDepth 100000 in
set_option maxHeartbeats 8000000 in
theorem rf_sameLn (A B : Option Addr) (L : List Lq) (c d : Nat) (w : World) (h1 : RdG 4 lnL w w.heap.size A L) (h2 : RdG 4 lnL w w.heap.size B L) (hn : L.length ≤ maxLen) :
    Calls Try.prog 37 #[.slice A L.length c, .slice B L.length d] w fun e w' => e = .returned (.bool true) ∧ Since w w' := by
  have hn' : (L.length : Int) ≤ 9223372036854775807 := by simp only [maxLen] at hn; omega
  obtain ⟨n, hnn⟩ : ∃ n, n = L.length := ⟨_, rfl⟩
  rw [← hnn] at hn' ⊢
  have HN := Lib.hid hnn
  clear hnn
  go_enter Try.func37, Try.ntmps37
  go_wp2
  go_loopw [13] (fun y wr => ∃ j : Nat, j ≤ n ∧ y = .int .i64 (j : Int) ∧ Since w wr) (fun y _ => n - (intOf y).toNat)
  case atStart => exact ⟨0, by omega, rfl, Since.refl _⟩
  case round =>
    obtain ⟨j, hj, rfl, hSr⟩ := hrel
    by_cases hjn : j < n
    · have hjn' : (j : Int) < n := by omega
      have hnn := HN.out
      obtain ⟨b, o, rfl, hb, hc⟩ := h1 (by omega)
      obtain ⟨b', o', rfl, hb', hc'⟩ := h2 (by omega)
      obtain ⟨p, hp⟩ : ∃ p, L[j]? = some p := ⟨_, List.getElem?_eq_getElem (by omega)⟩
      obtain ⟨x, y, x', y'⟩ := p
      have c1 := (hSr.1 _ _ hb).trans (hc j _ hp 0 (by omega))
      have c2 := (hSr.1 _ _ hb).trans (hc j _ hp 1 (by omega))
      have c3 := (hSr.1 _ _ hb).trans (hc j _ hp 2 (by omega))
      have c4 := (hSr.1 _ _ hb).trans (hc j _ hp 3 (by omega))
      have e1 := (hSr.1 _ _ hb').trans (hc' j _ hp 0 (by omega))
      have e2 := (hSr.1 _ _ hb').trans (hc' j _ hp 1 (by omega))
      have e3 := (hSr.1 _ _ hb').trans (hc' j _ hp 2 (by omega))
      have e4 := (hSr.1 _ _ hb').trans (hc' j _ hp 3 (by omega))
      simp only [lnL, List.getD_cons_succ, List.getD_cons_zero, Nat.add_zero] at c1 c2 c3 c4 e1 e2 e3 e4
      have hj0 : (0 : Int) ≤ j := by omega
      clear hc hc' h1 h2 hnn hp
      go_wp2_with fail
      go_quiet (fail)
      go_wp2
      refine ⟨⟨j + 1, by omega, by simp, by (repeat (first | with_reducible (exact Since.refl _) | with_reducible assumption | with_reducible (refine Since.drew ?_) | with_reducible (refine Since.drewN ?_ _) | with_reducible (refine Since.alloc ?_ _) | (with_reducible (refine Since.setCell ?_ ?_ _); rotate_left; focus (first | (simp; done) | (simp; omega) | omega)) | (with_reducible (refine Since.trans ?_ (by with_reducible assumption)))))⟩, by simp [intOf]; omega⟩
    · obtain rfl : j = n := by omega
      clear h1 h2
      go_wp2
      go_ret
      exact ⟨rfl, hSr⟩
end Go.Proofs.Ytdbenpncnkfliaa

/-
  Layer 14: the laws FlatPiece, FlatClosed, FlatLines, walked.
-/
namespace Go.Proofs.Ytdbenpncnkfliaa
open Go.RowKit Go.ChangeShapes Go.WideShapes Go.Deep
set_option linter.unusedVariables false

theorem fa_piece_s (s : Sg) (hs : s.wf) (hok : inR s = true) (w : World) :
    Calls Try.prog 31 #[s.v] w fun e w' => ∃ A c, e = .returned (.tuple #[.slice A (ptsOf s).length c, .int .i64 0]) ∧ RdG 2 ptL w' w'.heap.size A (ptsOf s) ∧ Since w w' := by
  refine (fa_piece_yes s hs w hok).mono ?_
  rintro e w' ⟨v, rfl, hO, hS⟩
  obtain ⟨A, c, rfl, hc, hr⟩ := OwnG.rd (by omega) ptL_len hO
  exact ⟨A, c, rfl, hr, hS⟩
theorem rf_piece_r (s : Sg) (hok : inR s = true) (w : World) :
    Calls Try.prog 34 #[s.v] w fun e w' => ∃ A c, e = .returned (.slice A (ptsOf s).length c) ∧ RdG 2 ptL w' w'.heap.size A (ptsOf s) ∧ Since w w' := by
  refine (rf_piece s w hok).mono ?_
  rintro e w' ⟨v, rfl, hO, hS⟩
  obtain ⟨A, c, rfl, hc, hr⟩ := OwnG.rd (by omega) ptL_len hO
  exact ⟨A, c, rfl, hr, hS⟩
set_option maxRecDepth 100000 in
set_option maxHeartbeats 8000000 in
theorem walk_flatpiece (s : Sg) (hs : s.wf) (w : World) :
    Calls Try.prog 9 #[s.v] w fun e w' => e = .returned (.bool true) ∧ Since w w' := by
  have hN := fun w b hb t => seg_new w b hb s t
  have hG := fun w => rq_good s w
  have HN := Lib.hid hN
  cases hok : inR s with
  | true =>
    rw [hok] at hG
    have h1 := fa_piece_s s hs hok
    have h2 := rf_piece_r s hok
    have hpl := pts_le s
    generalize ptsOf s = PT at *
    unfold Sg.v at *
    obtain ⟨n, hn⟩ : ∃ n, n = PT.length := ⟨_, rfl⟩
    rw [← hn] at h1 h2 hpl
    have hsame := fun (A B : Option Addr) (c d : Nat) (w : World) (h1 : RdG 2 ptL w w.heap.size A PT) (h2 : RdG 2 ptL w w.heap.size B PT) => rf_sameP A B PT c d w h1 h2 (by simp only [maxLen]; omega)
    rw [← hn] at hsame
    have H1 := Lib.hid h1
    have H2 := Lib.hid h2
    have HG := Lib.hid hG
    have HS := Lib.hid hsame
    clear h1 h2 hG hN hs hok hn hsame
    go_enter Try.func9, Try.ntmps9
    go_wp2_with (first | (go_at_call 30; (with_reducible refine (alive14 _).mono ?_); rintro e w1 ⟨rfl, hS1⟩; have sa := (HN.out w _ rfl _).since hS1; have hT : Since w w1 := (by (repeat (first | with_reducible (exact Since.refl _) | with_reducible assumption | with_reducible (refine Since.drew ?_) | with_reducible (refine Since.drewN ?_ _) | with_reducible (refine Since.alloc ?_ _) | (with_reducible (refine Since.setCell ?_ ?_ _); rotate_left; focus (first | (simp; done) | (simp; omega) | omega)) | (with_reducible (refine Since.trans ?_ (by with_reducible assumption)))))); obtain ⟨a1, a2, a3, a4, a5, a6, a7, a8⟩ := id sa) | (go_at_call 31; (with_reducible refine (H1.out _).mono ?_); rintro e w2 ⟨A2, c2, rfl, hr2, hS2⟩; have sb := sa.since hS2; have hU := hT.trans hS2; clear a1 a2 a3 a4 a5 a6 a7 a8 sa hT hS1; obtain ⟨a1, a2, a3, a4, a5, a6, a7, a8⟩ := id sb) | (go_at_call 32; (with_reducible refine (HG.out _).mono ?_); rintro e w3 ⟨rfl, hS3⟩; have sc := sb.since hS3; have hV := hU.trans hS3; have hr3 := hr2.on hS3; clear a1 a2 a3 a4 a5 a6 a7 a8 sb hU hS2 hr2; obtain ⟨a1, a2, a3, a4, a5, a6, a7, a8⟩ := id sc) | (go_at_call 34; (with_reducible refine (H2.out _).mono ?_); rintro e w4 ⟨A4, c4, rfl, hr4, hS4⟩; have hr34 := hr3.on hS4; have hW := hV.trans hS4; clear a1 a2 a3 a4 a5 a6 a7 a8 sc hV hS3 hr3) | (go_at_call 33; (with_reducible refine (HS.out _ _ _ _ _ hr34 hr4).mono ?_); rintro e w5 ⟨rfl, hS5⟩; have hX := hW.trans hS5))
    go_ret
    exact ⟨by first | rfl | simp, hX⟩
  | false =>
    rw [hok] at hG
    have h1 := fun w => fa_piece_no s hs w hok
    unfold Sg.v at *
    have H1 := Lib.hid h1
    have HG := Lib.hid hG
    clear h1 hG hN hs hok
    go_enter Try.func9, Try.ntmps9
    go_wp2_with (first | (go_at_call 30; (with_reducible refine (alive14 _).mono ?_); rintro e w1 ⟨rfl, hS1⟩; have sa := (HN.out w _ rfl _).since hS1; have hT : Since w w1 := (by (repeat (first | with_reducible (exact Since.refl _) | with_reducible assumption | with_reducible (refine Since.drew ?_) | with_reducible (refine Since.drewN ?_ _) | with_reducible (refine Since.alloc ?_ _) | (with_reducible (refine Since.setCell ?_ ?_ _); rotate_left; focus (first | (simp; done) | (simp; omega) | omega)) | (with_reducible (refine Since.trans ?_ (by with_reducible assumption)))))); obtain ⟨a1, a2, a3, a4, a5, a6, a7, a8⟩ := id sa) | (go_at_call 31; (with_reducible refine (H1.out _).mono ?_); rintro e w2 ⟨rfl, hS2⟩; have sb := sa.since hS2; have hU := hT.trans hS2; clear a1 a2 a3 a4 a5 a6 a7 a8 sa hT hS1; obtain ⟨a1, a2, a3, a4, a5, a6, a7, a8⟩ := id sb) | (go_at_call 32; (with_reducible refine (HG.out _).mono ?_); rintro e w3 ⟨rfl, hS3⟩; have hV := hU.trans hS3; clear a1 a2 a3 a4 a5 a6 a7 a8 sb hU hS2))
    go_ret
    exact ⟨by first | rfl | simp, hV⟩
set_option maxRecDepth 100000 in
set_option maxHeartbeats 8000000 in
theorem walk_flatclosed (A : Option Addr) (c : Nat) (L : List Lq) (w : World) (h : RdG 4 lnL w w.heap.size A L) (hn : L.length ≤ maxLen) (hwf : ∀ x ∈ L, wfLq x) :
    Calls Try.prog 11 #[.slice A L.length c] w fun e w' => e = .returned (.bool true) ∧ Since w w' := by
  by_cases hb : 300 < L.length
  · have hd : decide ((300 : Int) < (L.length : Int)) = true := by simp; omega
    clear hwf
    go_enter Try.func11, Try.ntmps11
    go_wp2_with (go_at_call 30; (with_reducible refine (alive14 _).mono ?_); rintro e w1 ⟨rfl, hS1⟩)
    go_ret
    exact ⟨by first | rfl | simp, hS1⟩
  · have hd : decide ((300 : Int) < (L.length : Int)) = false := by simp; omega
    have h1 := fun w h => fa_closed A L c w h (by omega) hwf
    have h2 := fun w h => rf_closed A L c w h (by omega)
    generalize closedB L = r at *
    have H1 := Lib.hid h1
    have H2 := Lib.hid h2
    clear h1 h2 hwf
    go_enter Try.func11, Try.ntmps11
    go_wp2_with (first | (go_at_call 30; (with_reducible refine (alive14 _).mono ?_); rintro e w1 ⟨rfl, hS1⟩; have k1 := h.on hS1) | (go_at_call 38; (with_reducible refine (H1.out _ k1).mono ?_); rintro e w2 ⟨rfl, hS2⟩; have k2 := k1.on hS2) | (go_at_call 39; (with_reducible refine (H2.out _ k2).mono ?_); rintro e w3 ⟨rfl, hS3⟩))
    go_ret
    exact ⟨by first | rfl | simp, (hS1.trans hS2).trans hS3⟩
def LinesRd (w : World) (LL : List (List Kt)) (e : Ending) (w' : World) : Prop := ∃ A c, e = .returned (.tuple #[.slice A (linesL LL).length c, .int .i64 (linesE LL)]) ∧ RdG 4 lnL w' w'.heap.size A (linesL LL) ∧ Since w w'
theorem LinesOut.rd {w w' : World} {LL : List (List Kt)} {e : Ending} (h : LinesOut w LL e w') : LinesRd w LL e w' := by
  obtain ⟨v, rfl, hO, hS⟩ := h
  obtain ⟨A, c, rfl, hc, hr⟩ := OwnG.rd (by omega) lnL_len hO
  exact ⟨A, c, rfl, hr, hS⟩
theorem linesL_len (LL : List (List Kt)) : (linesL LL).length ≤ 4096 := by
  unfold linesL
  split
  · rename_i h
    unfold linesE at h
    split at h
    · cases h
    · split at h
      · cases h
      · split at h
        · cases h
        · omega
  · simp
theorem linesE_in (LL : List (List Kt)) : linesE LL = 0 ∨ linesE LL = 6 ∨ linesE LL = 7 := by
  unfold linesE
  split
  · simp
  · split
    · simp
    · split <;> simp
set_option maxRecDepth 1000000 in
set_option maxHeartbeats 32000000 in
theorem walk_flatlines (A : Option Addr) (c : Nat) (LL : List (List Kt)) (w : World) (h : RdOL w w.heap.size A LL) (hn : LL.length ≤ maxLen) (hm : ∀ L, L ∈ LL → L.length ≤ maxLen) (hin : ∀ L, L ∈ LL → ∀ k, k ∈ L → InP k.x k.y) :
    Calls Try.prog 10 #[.slice A LL.length c] w fun e w' => e = .returned (.bool true) ∧ Since w w' := by
  have hgr := fun w (h : RdOL w w.heap.size A LL) => rf_great A c LL w h hn hm
  have HG := Lib.hid hgr
  have HIN := Lib.hid hin
  clear hgr hin
  go_enter Try.func10, Try.ntmps10
  go_upto_if 11 with (first | (go_at_call 30; (with_reducible refine (alive14 _).mono ?_); rintro e w1 ⟨rfl, hS1⟩; have hR1 := h.on hS1; clear h) | (go_at_call 21; (with_reducible refine (HG.out _ hR1).mono ?_); rintro e w2 ⟨g, rfl, hng, hS2⟩; have hR2 := hR1.on hS2; have hT2 := hS1.trans hS2; have HNG := Lib.hid hng; clear hng hR1 hS1 hS2))
  cases g
  · obtain ⟨n6, n5, n9⟩ := HNG.out rfl
    have n5' : ∀ L, L ∈ LL → L.length ≤ 1000000 := fun L hL => by have := n5 L hL; omega
    have hle : ∀ L, L ∈ LL → L.length ≤ maxLen := fun L hL => by have := n5 L hL; simp only [maxLen]; omega
    have h1 := fun (A : Option Addr) (c : Nat) (w : World) (h : RdOL w w.heap.size A LL) => (fa_lines A c LL w h n6 n5 HIN.out).mono fun e w' k => LinesOut.rd k
    have h2 := fun (A : Option Addr) (c : Nat) (w : World) (h : RdOL w w.heap.size A LL) => (rf_lines A c LL w h n6 n5 HIN.out).mono fun e w' k => LinesOut.rd k
    have h3 := linesL_len LL
    have hee := linesE_in LL
    unfold LinesRd at h1 h2
    generalize linesE LL = E at *
    generalize linesL LL = ML at *
    have hsm := fun (A B : Option Addr) (c d : Nat) (w : World) (h1 : RdG 4 lnL w w.heap.size A ML) (h2 : RdG 4 lnL w w.heap.size B ML) => rf_sameLn A B ML c d w h1 h2 (by simp only [maxLen]; omega)
    have H1 := Lib.hid h1
    have H2 := Lib.hid h2
    have HS := Lib.hid hsm
    have HLE := Lib.hid hle
    have N5 := Lib.hid n5'
    clear h1 h2 hsm hle n5' n5 HNG HG hm h3
    go_wp2_with (first | (go_at_call 22; (with_reducible refine (rf_copy A c LL _ hR2 (by omega) N5.out).mono ?_); rintro e w3 ⟨A3, c3, rfl, hR3, hS3⟩; have hR23 := hR2.on hS3; have hT3 := hT2.trans hS3; clear hR2 hT2) | (go_at_call 35; (with_reducible refine (H1.out A3 c3 _ hR3).mono ?_); rintro e w4 ⟨A4, c4, rfl, hL4, hS4⟩; have hR34 := hR3.on hS4; have hR24 := hR23.on hS4; have hT4 := hT3.trans hS4; clear hR3 hR23 hT3 hS4) | (go_at_call 36; (with_reducible refine (H2.out A c _ hR24).mono ?_); rintro e w5 ⟨A5, c5, rfl, hL5, hS5⟩; have hR35 := hR34.on hS5; have hR25 := hR24.on hS5; have hL45 := hL4.on hS5; have hT5 := hT4.trans hS5; clear hR34 hR24 hT4 hS5 hL4) | (go_at_call 37; (with_reducible refine (HS.out _ _ _ _ _ hL45 hL5).mono ?_); rintro e w6 ⟨rfl, hS6⟩; have hR36 := hR35.on hS6; have hR26 := hR25.on hS6; have hT6 := hT5.trans hS6; clear hR35 hR25 hT5 hS6 hL5 hL45) | (go_at_call 18; (with_reducible refine (rf_sameL A3 A c3 c LL _ hR36 hR26 hn HLE.out).mono ?_); rintro e w9 ⟨rfl, hS9⟩; have hT9 := hT6.trans hS9))
    go_ret
    exact ⟨by first | rfl | simp, hT9⟩
  · clear HNG hm HG
    go_wp2_with fail
    go_ret
    exact ⟨rfl, hT2⟩
end Go.Proofs.Ytdbenpncnkfliaa

/-
  A slice of knots that came in.
-/
namespace Go.Proofs.Ytdbenpncnkfliaa
open Go.RowKit Go.ChangeShapes Go.WideShapes Go.Deep
set_option linter.unusedVariables false
def numK : Value → Int
  | .int _ a => a
  | _ => 0
def boolK : Value → Bool
  | .bool a => a
  | _ => false
theorem in64_lit {a : Int} (h : (Lit.int .i64 a).wf = true) : In64 a := by
  have h : -9223372036854775808 ≤ a ∧ a ≤ 9223372036854775807 := by simpa [Lit.wf, IntKind.min, IntKind.max, IntKind.signed, IntKind.bits] using h
  unfold In64
  omega
section
variable {H : Type} {enc : TypeId × Value → H} {P : Program} {W : World}
theorem open_knots {t e t0 t2 : TypeId} {r : Reach} {b0 : Nat} {v : Value} {d : DataW H} {ps : List MemPlace} (ht : P.underlying t = some (.slice e)) (ce : P.cellsOf e = 3) (l0 : leafAt P 6 e 0 = some t0) (l1 : leafAt P 6 e 1 = some t0) (l2 : leafAt P 6 e 2 = some t2) (k0 : P.underlying t0 = some (.int .i64)) (k2 : P.underlying t2 = some .bool)
    (hval : Value.okWide P W r b0 t v) (h : DataW.Trod enc P W 0 (fun _ => true) true t v d ps) (hlt : ∀ x ∈ ps, x.block < W.heap.size) :
    ∃ (A : Option Addr) (n c : Nat) (X Y : Nat → Int) (O : Nat → Bool), v = .slice A n c ∧ n ≤ c ∧ c ≤ maxLen ∧ RdK W W.heap.size A n X Y O ∧ (∀ j, j < n → InP (X j) (Y j)) ∧ (c = 0 ∨ ∃ el sp, d = .slice el sp ∧ el.length + sp.length = c) := by
  obtain ⟨A, n, c, V, rfl, hnc, hcm, hr, hall, hz⟩ := open_flat ht ce (by omega) hval h hlt
  have each : ∀ i, i < n → (V (i * 3) = .int .i64 (numK (V (i * 3))) ∧ In64 (numK (V (i * 3)))) ∧ (V (i * 3 + 1) = .int .i64 (numK (V (i * 3 + 1))) ∧ In64 (numK (V (i * 3 + 1)))) ∧ V (i * 3 + 2) = .bool (boolK (V (i * 3 + 2))) := fun i hi => by
    obtain ⟨m, x, hx⟩ := hall i hi
    obtain ⟨u0, m0, y0, a1, a2, _⟩ := leaf_at 6 e t0 0 l0 m _ x hx
    obtain ⟨u1, m1, y1, b1, b2, _⟩ := leaf_at 6 e t0 1 l1 m _ x hx
    obtain ⟨u2, m2, y2, c1, c2, _⟩ := leaf_at 6 e t2 2 l2 m _ x hx
    obtain ⟨p, ep, _, wp⟩ := DataW.trod_int k0 a2
    obtain ⟨q, eq, _, wq⟩ := DataW.trod_int k0 b2
    obtain ⟨s, es, _⟩ := DataW.trod_bool k2 c2
    injection ep with ep
    injection eq with eq
    injection es with es
    rw [tab_get, if_pos (by omega)] at a1 b1 c1
    injection a1 with a1
    injection b1 with b1
    injection c1 with c1
    rw [Nat.add_zero] at a1
    subst ep; subst eq; subst es
    rw [a1, b1, c1]
    exact ⟨⟨rfl, in64_lit wp⟩, ⟨rfl, in64_lit wq⟩, rfl⟩
  refine ⟨A, n, c, fun i => numK (V (i * 3)), fun i => numK (V (i * 3 + 1)), fun i => boolK (V (i * 3 + 2)), rfl, hnc, hcm, fun hn => ?_, fun j hj => ⟨(each j hj).1.2, (each j hj).2.1.2⟩, hz⟩
  obtain ⟨b, o, rfl, hb, hc⟩ := hr (by omega)
  refine ⟨b, o, rfl, hb, fun j hj => ?_⟩
  obtain ⟨⟨e1, _⟩, ⟨e2, _⟩, e3⟩ := each j hj
  exact ⟨(hc (j * 3) (by omega)).trans (by rw [← e1]), by rw [Nat.add_assoc]; exact (hc (j * 3 + 1) (by omega)).trans (by rw [← e2]), by rw [Nat.add_assoc]; exact (hc (j * 3 + 2) (by omega)).trans (by rw [← e3])⟩
end
end Go.Proofs.Ytdbenpncnkfliaa

/-
  A slice of lines that came in.
-/
namespace Go.Proofs.Ytdbenpncnkfliaa
open Go.RowKit Go.ChangeShapes Go.WideShapes Go.Deep
set_option linter.unusedVariables false
section
variable {H : Type} {enc : TypeId × Value → H} {P : Program} {W : World}
theorem open_lines {t e t0 : TypeId} {r : Reach} {b0 : Nat} {v : Value} {d : DataW H} {ps : List MemPlace} (ht : P.underlying t = some (.slice e)) (ce : P.cellsOf e = 4) (l0 : leafAt P 6 e 0 = some t0) (l1 : leafAt P 6 e 1 = some t0) (l2 : leafAt P 6 e 2 = some t0) (l3 : leafAt P 6 e 3 = some t0) (k0 : P.underlying t0 = some (.int .i64))
    (hval : Value.okWide P W r b0 t v) (h : DataW.Trod enc P W 0 (fun _ => true) true t v d ps) (hlt : ∀ x ∈ ps, x.block < W.heap.size) :
    ∃ (A : Option Addr) (c : Nat) (L : List Lq), v = .slice A L.length c ∧ L.length ≤ maxLen ∧ RdG 4 lnL W W.heap.size A L ∧ (∀ x ∈ L, wfLq x) := by
  obtain ⟨A, n, c, V, rfl, hnc, hcm, hr, hall, hz⟩ := open_flat ht ce (by omega) hval h hlt
  have each : ∀ i, i < n → ∀ j, j < 4 → V (i * 4 + j) = .int .i64 (numK (V (i * 4 + j))) ∧ (Lit.int .i64 (numK (V (i * 4 + j)))).wf = true := fun i hi j hj => by
    obtain ⟨m, x, hx⟩ := hall i hi
    have hl : leafAt P 6 e j = some t0 := by
      have h : j = 0 ∨ j = 1 ∨ j = 2 ∨ j = 3 := by omega
      rcases h with rfl | rfl | rfl | rfl <;> assumption
    obtain ⟨u0, m0, y0, a1, a2, _⟩ := leaf_at 6 e t0 j hl m _ x hx
    obtain ⟨p, ep, _, wp⟩ := DataW.trod_int k0 a2
    injection ep with ep
    rw [tab_get, if_pos (by omega)] at a1
    injection a1 with a1
    subst ep
    rw [a1]
    exact ⟨rfl, wp⟩
  let F : Nat → Lq := fun i => ⟨numK (V (i * 4)), numK (V (i * 4 + 1)), numK (V (i * 4 + 2)), numK (V (i * 4 + 3))⟩
  have hlen : ((List.range n).map F).length = n := by simp
  refine ⟨A, c, (List.range n).map F, by rw [hlen], by rw [hlen]; omega, fun hn => ?_, fun x hx => ?_⟩
  · rw [hlen] at hn
    obtain ⟨b, o, rfl, hb, hc⟩ := hr (by omega)
    refine ⟨b, o, rfl, hb, fun j s hj i hi => ?_⟩
    have hjn : j < n := by
      rcases Nat.lt_or_ge j n with h | h
      · exact h
      · rw [List.getElem?_eq_none (by rw [hlen]; exact h)] at hj; cases hj
    rw [List.getElem?_map, List.getElem?_range hjn] at hj
    simp only [Option.map_some, Option.some.injEq] at hj
    subst hj
    rw [Nat.add_assoc, hc (j * 4 + i) (by omega), (each j hjn i hi).1]
    have h : i = 0 ∨ i = 1 ∨ i = 2 ∨ i = 3 := by omega
    rcases h with rfl | rfl | rfl | rfl <;> rfl
  · rw [List.mem_map] at hx
    obtain ⟨i, hi, rfl⟩ := hx
    have hin : i < n := by simpa using hi
    exact ⟨⟨(each i hin 0 (by omega)).2, (each i hin 1 (by omega)).2⟩, (each i hin 2 (by omega)).2, (each i hin 3 (by omega)).2⟩
end
end Go.Proofs.Ytdbenpncnkfliaa

/-
  An outline that came in.
-/
namespace Go.Proofs.Ytdbenpncnkfliaa
open Go.RowKit Go.ChangeShapes Go.WideShapes Go.Deep
set_option linter.unusedVariables false
theorem rdOL_none (w : World) (B : Nat) : RdOL w B none [] := ⟨[], rfl, RdG.nil, fun j h L h1 h2 => by simp at h1⟩
section
variable {H : Type} {enc : TypeId × Value → H} {P : Program} {W : World}
theorem open_flat2 {t e : TypeId} {k : Nat} {v : Value} {d : DataW H} {ps : List MemPlace} (ht : P.underlying t = some (.slice e)) (ce : P.cellsOf e = k) (hk : 0 < k)
    (hval : ∃ A n c, v = .slice A n c) (h : DataW.Trod enc P W 0 (fun _ => true) true t v d ps) (hlt : ∀ x ∈ ps, x.block < W.heap.size) :
    ∃ (A : Option Addr) (n c : Nat) (V : Nat → Value), v = .slice A n c ∧ n ≤ c ∧ c ≤ maxLen ∧ Rd W W.heap.size A (n * k) V ∧ (∀ i, i < n → ∃ m x, DataW.trod enc P W 0 (fun _ => true) true m e (tab k (fun j => V (i * k + j))) = some x) ∧ (c = 0 ∨ ∃ el sp, d = .slice el sp ∧ el.length + sp.length = c) := by
  obtain ⟨A, n, c, rfl⟩ := hval
  obtain ⟨fuel, hf⟩ := h
  rcases open_slice ht hf with ⟨hcs, hx⟩ | ⟨a, len, cap, m, z, D, Pl, hcs, _, hl, hm, hmm, hx, hall⟩
  · simp [Value.cells] at hcs
    obtain ⟨rfl, rfl, rfl⟩ := hcs
    exact ⟨none, 0, 0, fun _ => undef, rfl, Nat.le_refl _, Nat.zero_le _, by rw [Nat.zero_mul]; exact Rd.zero, fun j hj => absurd hj (by omega), .inl rfl⟩
  · simp [Value.cells] at hcs
    obtain ⟨rfl, rfl, rfl⟩ := hcs
    simp only [if_true] at hmm
    subst hmm
    simp only [Prod.mk.injEq] at hx
    obtain ⟨rfl, rfl⟩ := hx
    have each : ∀ j, j < m → ∃ cs : List Value, cs.length = k ∧ (∀ i, i < k → W.cell? (a.add (j * k + i)) = cs[i]?) ∧ ∃ m' x, DataW.trod enc P W 0 (fun _ => true) true m' e cs = some x := by
      intro j hj
      obtain ⟨cs', g1, g2⟩ := hall j hj
      rw [ce] at g1
      obtain ⟨_, hlen, hcell⟩ := World.cells?_some g1
      refine ⟨cs', hlen, fun i hi => ?_, _, _, g2⟩
      have c0 := hcell i (by omega)
      rw [add_add] at c0
      exact c0
    obtain ⟨q, hq⟩ := choose_lt each
    have hV : ∀ j, j < m → ∀ i, i < k → W.cell? (a.add (j * k + i)) = some ((q j).getD i undef) := fun j hj i hi => by
      obtain ⟨h1, h2, _⟩ := hq j hj
      rw [h2 i hi, List.getElem?_eq_getElem (by omega)]
      simp [List.getD, show i < (q j).length by omega]
    refine ⟨some a, n, m, fun j => (q (j / k)).getD (j % k) undef, rfl, hl, hm, ?_, fun i hi => ?_, .inr ⟨_, _, rfl, ?_⟩⟩
    · intro hn
      have hspot : a.spot = none := by
        have h0 := hV 0 (by rcases Nat.eq_zero_or_pos m with h0 | h0 <;> (try subst h0) <;> (try simp at hl) <;> (try subst hl) <;> (try simp at hn) <;> omega) 0 hk
        rw [Nat.zero_mul, Nat.add_zero] at h0
        cases hsp : a.spot with
        | none => rfl
        | some s =>
          have e : (a.add 0).spot = some s := by unfold Addr.add; split <;> simp_all
          simp only [World.cell?] at h0
          split at h0
          · simp [e] at h0
          · cases h0
      obtain ⟨b, o, s⟩ := a
      simp only at hspot
      subst hspot
      have hmk : 0 < m * k := Nat.lt_of_lt_of_le hn (Nat.mul_le_mul_right _ hl)
      refine ⟨b, o, rfl, hlt (.cell b (o + 0)) (List.mem_append_left _ (MemPlace.mem_row.2 ⟨0, by rw [ce]; exact hmk, rfl⟩)), fun j hj => ?_⟩
      have hjk : j / k < m := by rw [Nat.div_lt_iff_lt_mul hk]; exact Nat.lt_of_lt_of_le hj (Nat.mul_le_mul_right _ hl)
      have h1 := hV (j / k) hjk (j % k) (Nat.mod_lt _ hk)
      rw [Nat.div_add_mod' j k] at h1
      rw [← add_plain]
      exact h1
    · obtain ⟨h1, h2, m', x, h3⟩ := hq i (by omega)
      refine ⟨m', x, ?_⟩
      rw [← h3]
      congr 1
      apply List.ext_getElem?
      intro j
      rw [tab_get]
      split
      · rename_i hj
        have e1 : (i * k + j) / k = i := by rw [Nat.add_comm, Nat.add_mul_div_right _ _ hk, Nat.div_eq_of_lt hj, Nat.zero_add]
        have e2 : (i * k + j) % k = j := by rw [Nat.add_comm, Nat.add_mul_mod_self_right, Nat.mod_eq_of_lt hj]
        simp only [e1, e2]
        rw [List.getElem?_eq_getElem (by omega)]
        simp [List.getD, show j < (q i).length by omega]
      · rw [List.getElem?_eq_none (by omega)]
    · simp; omega
theorem open_knots2 {t e t0 t2 : TypeId} {v : Value} {d : DataW H} {ps : List MemPlace} (ht : P.underlying t = some (.slice e)) (ce : P.cellsOf e = 3) (l0 : leafAt P 6 e 0 = some t0) (l1 : leafAt P 6 e 1 = some t0) (l2 : leafAt P 6 e 2 = some t2) (k0 : P.underlying t0 = some (.int .i64)) (k2 : P.underlying t2 = some .bool)
    (hval : ∃ A n c, v = .slice A n c) (h : DataW.Trod enc P W 0 (fun _ => true) true t v d ps) (hlt : ∀ x ∈ ps, x.block < W.heap.size) :
    ∃ (A : Option Addr) (n c : Nat) (X Y : Nat → Int) (O : Nat → Bool), v = .slice A n c ∧ n ≤ c ∧ c ≤ maxLen ∧ RdK W W.heap.size A n X Y O ∧ (∀ j, j < n → InP (X j) (Y j)) ∧ (c = 0 ∨ ∃ el sp, d = .slice el sp ∧ el.length + sp.length = c) := by
  obtain ⟨A, n, c, V, rfl, hnc, hcm, hr, hall, hz⟩ := open_flat2 ht ce (by omega) hval h hlt
  have each : ∀ i, i < n → (V (i * 3) = .int .i64 (numK (V (i * 3))) ∧ In64 (numK (V (i * 3)))) ∧ (V (i * 3 + 1) = .int .i64 (numK (V (i * 3 + 1))) ∧ In64 (numK (V (i * 3 + 1)))) ∧ V (i * 3 + 2) = .bool (boolK (V (i * 3 + 2))) := fun i hi => by
    obtain ⟨m, x, hx⟩ := hall i hi
    obtain ⟨u0, m0, y0, a1, a2, _⟩ := leaf_at 6 e t0 0 l0 m _ x hx
    obtain ⟨u1, m1, y1, b1, b2, _⟩ := leaf_at 6 e t0 1 l1 m _ x hx
    obtain ⟨u2, m2, y2, c1, c2, _⟩ := leaf_at 6 e t2 2 l2 m _ x hx
    obtain ⟨p, ep, _, wp⟩ := DataW.trod_int k0 a2
    obtain ⟨q, eq, _, wq⟩ := DataW.trod_int k0 b2
    obtain ⟨s, es, _⟩ := DataW.trod_bool k2 c2
    injection ep with ep
    injection eq with eq
    injection es with es
    rw [tab_get, if_pos (by omega)] at a1 b1 c1
    injection a1 with a1
    injection b1 with b1
    injection c1 with c1
    rw [Nat.add_zero] at a1
    subst ep; subst eq; subst es
    rw [a1, b1, c1]
    exact ⟨⟨rfl, in64_lit wp⟩, ⟨rfl, in64_lit wq⟩, rfl⟩
  refine ⟨A, n, c, fun i => numK (V (i * 3)), fun i => numK (V (i * 3 + 1)), fun i => boolK (V (i * 3 + 2)), rfl, hnc, hcm, fun hn => ?_, fun j hj => ⟨(each j hj).1.2, (each j hj).2.1.2⟩, hz⟩
  obtain ⟨b, o, rfl, hb, hc⟩ := hr (by omega)
  refine ⟨b, o, rfl, hb, fun j hj => ?_⟩
  obtain ⟨⟨e1, _⟩, ⟨e2, _⟩, e3⟩ := each j hj
  exact ⟨(hc (j * 3) (by omega)).trans (by rw [← e1]), by rw [Nat.add_assoc]; exact (hc (j * 3 + 1) (by omega)).trans (by rw [← e2]), by rw [Nat.add_assoc]; exact (hc (j * 3 + 2) (by omega)).trans (by rw [← e3])⟩
theorem open_outline {t e q t0 t2 : TypeId} {r : Reach} {b0 : Nat} {v : Value} {d : DataW H} {ps : List MemPlace} (ht : P.underlying t = some (.slice e)) (he : P.underlying e = some (.slice q)) (ce : P.cellsOf e = 1) (cq : P.cellsOf q = 3) (l0 : leafAt P 6 q 0 = some t0) (l1 : leafAt P 6 q 1 = some t0) (l2 : leafAt P 6 q 2 = some t2) (k0 : P.underlying t0 = some (.int .i64)) (k2 : P.underlying t2 = some .bool)
    (hval : Value.okWide P W r b0 t v) (h : DataW.Trod enc P W 0 (fun _ => true) true t v d ps) (hlt : ∀ x ∈ ps, x.block < W.heap.size) :
    ∃ (A : Option Addr) (c : Nat) (LL : List (List Kt)), v = .slice A LL.length c ∧ LL.length ≤ maxLen ∧ RdOL W W.heap.size A LL ∧ (∀ L, L ∈ LL → L.length ≤ maxLen) ∧ (∀ L, L ∈ LL → ∀ k, k ∈ L → InP k.x k.y) := by
  obtain ⟨A, n, c, rfl⟩ := okWide_slice ht hval
  obtain ⟨fuel, hf⟩ := h
  rcases open_slice1 ht ce hf with ⟨hcs, hx⟩ | ⟨a, len, cap, m, nf, V, D, Pl, hcs, _, hl, hm, hmm, hx, hall⟩
  · simp [Value.cells] at hcs
    obtain ⟨rfl, rfl, rfl⟩ := hcs
    exact ⟨none, 0, [], rfl, Nat.zero_le _, rdOL_none W W.heap.size, (by intro L hL; cases hL), (by intro L hL; cases hL)⟩
  · simp [Value.cells] at hcs
    obtain ⟨rfl, rfl, rfl⟩ := hcs
    simp only [if_true] at hmm
    subst hmm
    simp only [Prod.mk.injEq] at hx
    obtain ⟨rfl, rfl⟩ := hx
    have each : ∀ r, r < n → ∃ y : Option Addr × Nat × Nat × (Nat → Int) × (Nat → Int) × (Nat → Bool), V r = .slice y.1 y.2.1 y.2.2.1 ∧ y.2.1 ≤ maxLen ∧ RdK W W.heap.size y.1 y.2.1 y.2.2.2.1 y.2.2.2.2.1 y.2.2.2.2.2 ∧ ∀ j, j < y.2.1 → InP (y.2.2.2.1 j) (y.2.2.2.2.1 j) := by
      intro r hr
      obtain ⟨_, hrow⟩ := hall r (by omega)
      have hsh : ∃ A n c, V r = .slice A n c := by
        rcases open_slice he hrow with ⟨h1, _⟩ | ⟨a', len', cap', _, _, _, _, h1, _⟩
        · simp at h1; exact ⟨_, _, _, h1⟩
        · simp at h1; exact ⟨_, _, _, h1⟩
      have htr : DataW.Trod enc P W 0 (fun _ => true) true e (V r) (D r) (Pl r) := by
        refine ⟨nf, ?_⟩
        obtain ⟨A', n', c', e1⟩ := hsh
        rw [e1] at hrow ⊢
        exact hrow
      obtain ⟨A', n', c', X, Y, O, e1, h2, h3, h4, h5, _⟩ := open_knots2 he cq l0 l1 l2 k0 k2 hsh htr (fun x hx => hlt x (List.mem_append_right _ (List.mem_flatMap.2 ⟨r, by simp; omega, hx⟩)))
      exact ⟨(A', n', c', X, Y, O), e1, Nat.le_trans h2 h3, h4, h5⟩
    obtain ⟨y, hy⟩ := choose_lt each
    have hrd : Rd W W.heap.size (some a) n V := rd_of_places rfl (fun x hx => hlt x (List.mem_append_left _ hx)) hl (fun i hi => (hall i (by omega)).1)
    have hlen : ((List.range n).map fun r => ktL (y r).2.1 (y r).2.2.2.1 (y r).2.2.2.2.1 (y r).2.2.2.2.2).length = n := by simp
    refine ⟨some a, m, (List.range n).map fun r => ktL (y r).2.1 (y r).2.2.2.1 (y r).2.2.2.2.1 (y r).2.2.2.2.2, by rw [hlen], by rw [hlen]; omega, ⟨(List.range n).map fun r => ⟨(y r).1, (y r).2.1, (y r).2.2.1⟩, by simp, fun hn => ?_, fun j x L h1 h2 => ?_⟩, fun L hL => ?_, fun L hL => ?_⟩
    · obtain ⟨b, o, e1, hb, hc⟩ := hrd (by simpa using hn)
      refine ⟨b, o, e1, hb, fun j s hj i hi => ?_⟩
      obtain rfl : i = 0 := by omega
      rw [List.getElem?_map] at hj
      by_cases hjn : j < n
      · rw [List.getElem?_range hjn] at hj
        simp only [Option.map_some, Option.some.injEq] at hj
        subst hj
        rw [Nat.mul_one, Nat.add_zero, hc j hjn, (hy j hjn).1]
        rfl
      · rw [List.getElem?_eq_none (by simp; omega)] at hj
        cases hj
    · rw [List.getElem?_map] at h1 h2
      by_cases hjn : j < n
      · rw [List.getElem?_range hjn] at h1 h2
        simp only [Option.map_some, Option.some.injEq] at h1 h2
        subst h1 h2
        obtain ⟨_, _, h3, _⟩ := hy j hjn
        exact ⟨by rw [ktL_len], h3.list⟩
      · rw [List.getElem?_eq_none (by simp; omega)] at h1
        cases h1
    · rw [List.mem_map] at hL
      obtain ⟨r, hr, rfl⟩ := hL
      rw [ktL_len]
      exact (hy r (List.mem_range.1 hr)).2.1
    · rw [List.mem_map] at hL
      obtain ⟨r, hr, rfl⟩ := hL
      intro k hk
      unfold ktL at hk
      rw [List.mem_map] at hk
      obtain ⟨i, hi, rfl⟩ := hk
      exact (hy r (List.mem_range.1 hr)).2.2.2 i (List.mem_range.1 hi)
end
end Go.Proofs.Ytdbenpncnkfliaa

/-
  What the second form's premise gives: bounds on lengths.
-/
namespace Go.Proofs.Ytdbenpncnkfliaa
theorem bulk_pos {H : Type} (d : DataW H) : 0 < Rows.uptoBulk d := by
  cases d with
  | lit l => cases l <;> simp [Rows.uptoBulk]
  | _ => simp [Rows.uptoBulk]
theorem bulk_count {H : Type} : ∀ l : List (DataW H), l.length ≤ Rows.uptoBulkAll l
  | [] => by simp [Rows.uptoBulkAll]
  | d :: l => by
    have h1 := bulk_pos d; have h2 := bulk_count l
    simp only [Rows.uptoBulkAll, List.length_cons]; omega
theorem bulk_slice {H : Type} {c : Nat} {d : DataW H} (h : c = 0 ∨ ∃ el sp, d = .slice el sp ∧ el.length + sp.length = c) : c < Rows.uptoBulk d := by
  rcases h with rfl | ⟨el, sp, rfl, rfl⟩
  · exact bulk_pos d
  · have h1 := bulk_count el; have h2 := bulk_count sp
    simp only [Rows.uptoBulk]; omega
theorem bulk_all {H : Type} {l : List (DataW H)} (h : Rows.uptoSmall H (l ++ []) = true) : Rows.uptoBulkAll l ≤ 1048576 := by
  rw [List.append_nil] at h
  exact of_decide_eq_true h
end Go.Proofs.Ytdbenpncnkfliaa
