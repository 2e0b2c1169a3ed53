/-
  Layer 22: 'Disc', walked.
-/
import Derived.Test.YtckochcocflleaaArI
import Derived.Test.YtckochcocflleaaKitH
namespace Go.Proofs.Ytckochcocflleaa
open Go.RowKit Go.ChangeShapes Go.WideShapes Go.Deep
set_option linter.unusedVariables false

/-- Is a list's last point its first one too? -/
def closeB (L : List Pq) : Bool := match L.head?, L.getLast? with
  | some a, some b => decide (1 < L.length) && (b.x == a.x && b.y == a.y)
  | _, _ => false
def closeD (L : List Pq) : List Pq := if closeB L then L.take (L.length - 1) else L
noncomputable def discL (cx cy r : Int) : List Pq := closeD (rawD cx cy r (stpI r).toNat 4)
theorem closeB_short {L : List Pq} (h : L.length ≤ 1) : closeB L = false := by
  unfold closeB
  have e : decide (1 < L.length) = false := by simp; omega
  rw [e]
  cases L.head? <;> cases L.getLast? <;> rfl
theorem closeB_long {L : List Pq} {a b : Pq} (h : 1 < L.length) (h0 : L[0]? = some a) (h1 : L[L.length - 1]? = some b) : closeB L = (b.x == a.x && b.y == a.y) := by
  unfold closeB
  have e0 : L.head? = some a := by rw [List.head?_eq_getElem?]; exact h0
  have e1 : L.getLast? = some b := by rw [List.getLast?_eq_getElem?]; exact h1
  rw [e0, e1]
  have e : decide (1 < L.length) = true := by simp; omega
  simp only [e, Bool.true_and]
theorem closeD_len (L : List Pq) : (closeD L).length ≤ L.length := by
  unfold closeD
  split
  · rw [List.length_take]; omega
  · exact Nat.le_refl _
theorem rd_close {w : World} {B : Nat} {A : Option Addr} {L : List Pq} (h : RdG 2 ptL w B A L) : RdG 2 ptL w B A (closeD L) := by
  unfold closeD
  split
  · exact h.take _
  · exact h
set_option maxRecDepth 100000 in
set_option maxHeartbeats 8000000 in
theorem ar_disc_no (cx cy r : Int) (hP : InP cx cy) (w : World) (h : lenB r = false ∨ goodB cx cy = false) :
    Calls Try.prog 37 #[Pt cx cy, .int .i64 r] w fun e w' => e = .returned (.tuple #[.slice none 0 0, .int .i64 (if lenB r then 6 else 2)]) ∧ Since w w' := by
  have hL := fun w => ar_length r w
  have hg := fun w b hb t => good1 w b hb cx cy t hP
  unfold Pt
  cases hlen : lenB r
  · rw [hlen] at hL
    simp only [Bool.false_eq_true, if_false]
    clear h hg
    go_enter Try.func37, Try.ntmps37
    go_wp2_with (go_at_call 72; (with_reducible refine (hL _).mono ?_); rintro e w1 ⟨rfl, hS1⟩)
    refine bodyPost_ret (results_tmp2 rfl _ _ _) rfl ?_
    exact ⟨rfl, by (repeat (first | with_reducible (exact Since.refl _) | with_reducible assumption | with_reducible (refine Since.drew ?_) | with_reducible (refine Since.drewN ?_ _) | with_reducible (refine Since.alloc ?_ _) | (with_reducible (refine Since.setCell ?_ ?_ _); rotate_left; focus (first | (simp; done) | (simp; omega) | omega)) | (with_reducible (refine Since.trans ?_ (by with_reducible assumption)))))⟩
  · rw [hlen] at hL h
    have h2 : goodB cx cy = false := by simpa using h
    rw [h2] at hg
    simp only [if_true]
    clear h
    have HG := Lib.hid hg
    clear hg
    go_enter Try.func37, Try.ntmps37
    go_wp2_with (first | (go_at_call 72; (with_reducible refine (hL _).mono ?_); rintro e w1 ⟨rfl, hS1⟩; obtain ⟨c1, c2, c3⟩ := ((pt_new w _ rfl cx cy _).alloc _).since hS1) | (go_at_call 59; (with_reducible refine (HG.out _ _ (by first | rfl | simp) _).mono ?_); rintro e w2 ⟨rfl, hS2⟩))
    refine bodyPost_ret (results_tmp2 rfl _ _ _) rfl ?_
    exact ⟨rfl, by (repeat (first | with_reducible (exact Since.refl _) | with_reducible assumption | with_reducible (refine Since.drew ?_) | with_reducible (refine Since.drewN ?_ _) | with_reducible (refine Since.alloc ?_ _) | (with_reducible (refine Since.setCell ?_ ?_ _); rotate_left; focus (first | (simp; done) | (simp; omega) | omega)) | (with_reducible (refine Since.trans ?_ (by with_reducible assumption)))))⟩
set_option maxRecDepth 100000 in
set_option maxHeartbeats 8000000 in
theorem ar_disc (cx cy r : Int) (hg0 : goodB cx cy = true) (hlen : lenB r = true) (w : World) :
    Calls Try.prog 37 #[Pt cx cy, .int .i64 r] w fun e w' => ∃ A c, e = .returned (.tuple #[.slice A (discL cx cy r).length c, .int .i64 0]) ∧ RdG 2 ptL w' w'.heap.size A (discL cx cy r) ∧ Since w w' := by
  have hgi := goodB_iff.1 hg0
  have hL := fun w => ar_length r w
  have hg := fun w b hb t => good1 w b hb cx cy t (by unfold InP In64; omega)
  have hSt := fun w => ar_steps r w
  obtain ⟨m1, m2⟩ := stpI_in hlen
  have hD : discL cx cy r = closeD (rawD cx cy r (stpI r).toNat 4) := rfl
  obtain ⟨m, hm⟩ : ∃ m : Nat, stpI r = (m : Int) := ⟨(stpI r).toNat, by omega⟩
  rw [hm, Int.toNat_natCast] at hD
  rw [hm] at hSt m1 m2
  rw [hlen] at hL; rw [hg0] at hg
  generalize discL cx cy r = LD at *
  have hside := fun w0 bl bm br bc s re im L w h hbm hr hbr hc H1 H2 hL => ar_side w0 bl bm br bc cx cy r m s re im L w h hbm hr hbr hc hg0 hlen (by omega) (by omega) H1 H2 hL
  have hraw := fun s => rawD_len cx cy r m s
  have hz : rawD cx cy r m 0 = [] := rfl
  have hs : ∀ s, rawD cx cy r m (s + 1) = sideD cx cy r m s (rawD cx cy r m s) (2 * m) := fun s => rfl
  have HD := Lib.hid hD; have HL := Lib.hid hL; have HG := Lib.hid hg; have HST := Lib.hid hSt; have HSD := Lib.hid hside; have HRL := Lib.hid hraw; have HZ := Lib.hid hz; have HS := Lib.hid hs
  clear hD hL hg hSt hside hraw hz hs hgi hm hg0 hlen
  generalize hR : rawD cx cy r m = R at *
  clear hR
  unfold Pt
  go_enter Try.func37, Try.ntmps37
  go_wp2_with (first | (go_at_call 72; (with_reducible refine (HL.out _).mono ?_); rintro e w1 ⟨rfl, hS1⟩; have hP1 := ((pt_new w _ rfl cx cy _).alloc _).since hS1; have hR1 := (orow (w.alloc _) (w.heap.size + 1) (by simp) _ (.int .i64 r)).since hS1; have hT1 : Since w w1 := (by (repeat (first | with_reducible (exact Since.refl _) | with_reducible assumption | with_reducible (refine Since.drew ?_) | with_reducible (refine Since.drewN ?_ _) | with_reducible (refine Since.alloc ?_ _) | (with_reducible (refine Since.setCell ?_ ?_ _); rotate_left; focus (first | (simp; done) | (simp; omega) | omega)) | (with_reducible (refine Since.trans ?_ (by with_reducible assumption)))))); obtain ⟨c1, c2, c3⟩ := id hP1; obtain ⟨d1, d2⟩ := ocell hR1; clear hS1) | (go_at_call 59; (with_reducible refine (HG.out _ _ (by first | rfl | simp) _).mono ?_); rintro e w2 ⟨rfl, hS2⟩; have hP2 := (hP1.alloc _).since hS2; have hR2 := (hR1.alloc _).since hS2; have hT2 : Since w w2 := (by (repeat (first | with_reducible (exact Since.refl _) | with_reducible assumption | with_reducible (refine Since.drew ?_) | with_reducible (refine Since.drewN ?_ _) | with_reducible (refine Since.alloc ?_ _) | (with_reducible (refine Since.setCell ?_ ?_ _); rotate_left; focus (first | (simp; done) | (simp; omega) | omega)) | (with_reducible (refine Since.trans ?_ (by with_reducible assumption)))))); clear c1 c2 c3 d1 d2 hP1 hR1 hS2; obtain ⟨c1, c2, c3⟩ := id hP2; obtain ⟨d1, d2⟩ := ocell hR2) | (go_at_call 38; (with_reducible refine (HST.out _).mono ?_); rintro e w3 ⟨rfl, hS3⟩))
  refine wp_named fun w4 hw4 => ?_
  have hcap : CapP w2 w4 w2.heap.size [] := by
    subst hw4
    refine ⟨.slice none 0 0, ?_, OwnG.nil _ _ _ _ _, (((Since.refl w2).alloc _).trans hS3).alloc _, Nat.le_refl _⟩
    rw [((Since.refl w3).alloc _).below.block w2.heap.size (hS3.2.2.1 w2.heap.size (by simp)), hS3.below.block w2.heap.size (by simp)]
    exact heap_alloc_new w2 _
  have hbm : w4.heap[w3.heap.size]? = some (Obj.cells #[.int .i64 (m : Int)] 3 (0, 0)) := by subst hw4; exact heap_alloc_new w3 _
  clear hw4 hS3
  obtain ⟨bl, hbl⟩ : ∃ bl, bl = w2.heap.size := ⟨_, rfl⟩
  obtain ⟨bm, hbm0⟩ : ∃ bm, bm = w3.heap.size := ⟨_, rfl⟩
  rw [← hbl] at hcap ⊢
  rw [← hbm0] at hbm ⊢
  have hbl2 : w2.heap.size ≤ bl := by omega
  clear hbl hbm0
  have HP := Lib.hid hP2
  have HRR := Lib.hid hR2
  have HT := Lib.hid hT2
  have HT2 := Lib.hid hT2
  clear hP2 hR2 hT2 c1 c2 c3 d1 d2
  have q0 : qu 1 0 0 = (1, 0) := rfl
  have HC := Lib.hid hcap
  have HB := Lib.hid hbm
  clear hcap hbm
  go_loopw [9, 21] (fun z y wr => ∃ (s re im : Nat), s ≤ 4 ∧ y = .int .i64 (s : Int) ∧ z = .complex .f64 re im ∧ Hid (Stands re (qu 1 0 s).1) ∧ Hid (Stands im (qu 1 0 s).2) ∧ CapP w2 wr bl (R s) ∧ wr.heap[bm]? = some (Obj.cells #[.int .i64 (m : Int)] 3 (0, 0))) (fun _ y _ => 4 - (intOf y).toNat)
  case atStart => exact ⟨0, _, _, by omega, rfl, rfl, Lib.hid stands_one, Lib.hid stands_zero, by rw [HZ.out]; exact HC.out, HB.out⟩
  case round =>
    clear HC HB
    obtain ⟨s, re, im, hs, rfl, rfl, H1, H2, hcap, hbm⟩ := hrel
    by_cases hlt : s < 4
    · have hlt' : (s : Int) < 4 := by omega
      have u1 : IntKind.i64.wrap ((s : Int) + 1) = (s : Int) + 1 := IntWalk.i64_in _ (by omega)
      have hq := qu_near (x := 1) (y := 0) (B := 1) (by omega) (by omega) s
      obtain ⟨r1, i1, e1, t1, t2⟩ := mul_stands H1.out H2.out stands_zero stands_one (by unfold Near; omega) (by unfold Near; omega) (by unfold Near; omega) (by unfold Near; omega)
      have hmul := fun t w => run_complex_mul (P := Try.prog) w t re im 0 4607182418800017408 _ _ e1
      have T1 := Lib.hid (show Stands r1 (qu 1 0 (s + 1)).1 by rw [show (qu 1 0 (s + 1)).1 = (qu 1 0 s).1 * 0 - (qu 1 0 s).2 * 1 by simp only [qu]; omega]; exact t1)
      have T2 := Lib.hid (show Stands i1 (qu 1 0 (s + 1)).2 by rw [show (qu 1 0 (s + 1)).2 = (qu 1 0 s).1 * 1 + (qu 1 0 s).2 * 0 by simp only [qu]; omega]; exact t2)
      have hln : (R s).length ≤ 1000 := by
        have h1 := HRL.out s
        have h2 : s * (2 * m) ≤ 4 * 54 := Nat.mul_le_mul (by omega) (by omega)
        omega
      have hC := HSD.out w2 bl bm (w.heap.size + 1) w.heap.size s re im (R s) wr hcap hbm (ocell HRR.out).1 (ocell HRR.out).2 HP.out H1.out H2.out hln
      rw [← HS.out s] at hC
      have HC := Lib.hid hC
      clear hC hcap hbm H1 H2 e1 t1 t2 hq hln q0
      go_wp2_with (go_at_call 76; (with_reducible refine HC.out.mono ?_); rintro e w5 ⟨⟨v, rfl⟩, hcap5, hbm5⟩)
      go_roundw
      case rel => exact ⟨s + 1, r1, i1, by omega, by go_num, rfl, T1, T2, hcap5, hbm5⟩
      case measure => simp [intOf]; omega
    · obtain rfl : s = 4 := by omega
      have hln : (R 4).length ≤ 1000 := by
        have h1 := HRL.out 4
        omega
      clear H1 H2 hbm HSD HRL HZ HS HST HL HG q0
      generalize R 4 = L at *
      obtain ⟨v, h1, hO, hSr, hb⟩ := hcap
      obtain ⟨A, c, rfl, hc, hrd⟩ := hO.rd (by omega) ptL_len
      have cB : wr.cell? ⟨bl, 0, none⟩ = some (.slice A L.length c) := by simp [World.cell?, h1]
      have fB : wr.frozen? ⟨bl, 0, none⟩ = false := by simp [World.frozen?, h1]
      have hT : Since w wr := HT.out.trans hSr
      have H1 := Lib.hid h1
      have hRD := rd_close hrd
      have HRD := Lib.hid hRD
      have hcl := closeD_len L
      obtain ⟨n, hn⟩ : ∃ n, n = L.length := ⟨_, rfl⟩
      have HN := Lib.hid hn
      have u1 : IntKind.i64.wrap ((n : Int) - 1) = (n : Int) - 1 := IntWalk.i64_in _ (by omega)
      rw [← hn] at cB hc hln
      have HO := Lib.hid hO
      clear h1 hO hRD hcl HT HP HRR hn
      go_upto_region 15 with fail
      go_cut [43] (fun z wx => z = .bool (closeB L) ∧ wx = wr.drew)
      case first =>
        have hn := HN.out
        by_cases hn1 : 1 < n
        · obtain ⟨g, go', rfl, hgb, hcell⟩ := hrd (by omega)
          obtain ⟨a, ha⟩ : ∃ a, L[0]? = some a := ⟨_, List.getElem?_eq_getElem (by omega)⟩
          obtain ⟨b, hb'⟩ : ∃ b, L[L.length - 1]? = some b := ⟨_, List.getElem?_eq_getElem (by omega)⟩
          have e0 := closeB_long (by omega) ha hb'
          have l1 := hcell _ _ ha 0 (by omega)
          have l2 := hcell _ _ ha 1 (by omega)
          have l3 := hcell _ _ hb' 0 (by omega)
          have l4 := hcell _ _ hb' 1 (by omega)
          simp only [ptL, List.getD_cons_succ, List.getD_cons_zero, Nat.add_zero, Nat.zero_mul] at l1 l2 l3 l4
          rw [← hn] at l3 l4
          obtain ⟨ax, ay⟩ := a
          obtain ⟨bx, bz⟩ := b
          simp only at l1 l2 l3 l4 e0
          have E0 := Lib.hid e0
          have q1 : decide ((0 : Int) < (n : Int) - 1) = true := by simp; omega
          have q7 : decide ((1 : Int) < (n : Int)) = true := by simp; omega
          have q8 : decide (1 < n) = true := by simp; omega
          have q2 : (0 : Int) ≤ (n : Int) - 1 := by omega
          have q3 : ((n : Int) - 1).toNat = n - 1 := by omega
          have q4 : (n : Int) - 1 < (n : Int) := by omega
          have q5 : (0 : Int) < (n : Int) := by omega
          have q6 : 0 < n := by omega
          clear e0 hcell ha hb' hrd hn hn1 hln hc
          by_cases e1 : bx = ax
          · by_cases e2 : bz = ay
            · subst e1 e2
              go_region
              all_goals (go_wp2_with fail)
              all_goals go_meet
              all_goals exact ⟨by rw [E0.out]; simp, rfl⟩
            · subst e1
              have e3 : (bz == ay) = false := by simp [e2]
              go_region
              all_goals (go_wp2_with fail)
              all_goals go_meet
              all_goals exact ⟨by rw [E0.out]; simp [e3], rfl⟩
          · have e3 : (bx == ax) = false := by simp [e1]
            go_region
            all_goals (go_wp2_with fail)
            all_goals go_meet
            all_goals exact ⟨by rw [E0.out]; simp [e3], rfl⟩
        · have e0 := closeB_short (L := L) (by omega)
          have E0 := Lib.hid e0
          have q1 : decide ((0 : Int) < (n : Int) - 1) = false := by simp; omega
          have q7 : decide ((1 : Int) < (n : Int)) = false := by simp; omega
          have q8 : decide (1 < n) = false := by simp; omega
          clear e0 hn hn1 hrd hln hc
          go_region
          all_goals (go_wp2_with fail)
          all_goals go_meet
          all_goals exact ⟨by rw [E0.out], rfl⟩
      obtain ⟨hz, hw⟩ := hcut
      subst hz hw
      cases hcl : closeB L
      · have e : closeD L = L := by unfold closeD; rw [hcl]; rfl
        rw [e] at HRD HD
        have cB' : wr.drew.cell? ⟨bl, 0, none⟩ = some (.slice A n c) := cB
        clear hrd hc hln
        go_wp2_with fail
        refine bodyPost_ret (results_tmp2 rfl _ _ _) rfl ?_
        exact ⟨A, c, by rw [HD.out, ← HN.out]; rfl, by rw [HD.out]; exact HRD.out, hT.drew⟩
      · have e : closeD L = L.take (L.length - 1) := by unfold closeD; rw [hcl]; rfl
        have hn := HN.out
        have el : (closeD L).length = n - 1 := by rw [e, List.length_take]; omega
        have hn1 : 1 < n := by
          rcases Nat.lt_or_ge 1 n with h | h
          · exact h
          · rw [closeB_short (by omega)] at hcl; cases hcl
        have EL := Lib.hid el
        have cB' : wr.drew.cell? ⟨bl, 0, none⟩ = some (.slice A n c) := cB
        have fB' : wr.drew.frozen? ⟨bl, 0, none⟩ = false := fB
        have q2 : (0 : Int) ≤ (n : Int) - 1 := by omega
        have q3 : ((n : Int) - 1).toNat = n - 1 := by omega
        have q4 : (n : Int) - 1 ≤ (c : Int) := by omega
        have hbw : w.heap.size ≤ bl := by have := HT2.out.below.size; omega
        have hO9 : ∀ v, OwnG 34 2 ptL (wr.setCell ⟨bl, 0, none⟩ v) (bl + 1) (.slice A L.length c) L := fun v => HO.out.keep (fun b hb1 hb2 => heap_setCell_other _ _ _ _ (by simp only; omega))
        have HO9 := Lib.hid hO9
        clear hn hrd hln e el hcl hO9
        go_wp2_with fail
        refine bodyPost_ret (results_tmp2 rfl _ _ _) rfl ?_
        refine ⟨A, c, by rw [HD.out, EL.out]; rfl, ?_, hT.drew.setCell hbw _⟩
        rw [HD.out]
        obtain ⟨A', c', e', _, hr'⟩ := (HO9.out (.slice A (n - 1) c)).rd (by omega) ptL_len
        injection e' with e1 e2 e3
        subst e1
        exact rd_close hr'
end Go.Proofs.Ytckochcocflleaa
