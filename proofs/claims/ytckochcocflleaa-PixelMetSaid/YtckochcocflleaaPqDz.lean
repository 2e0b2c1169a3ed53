/-
  Texts of this seat, put together: each with its own head.
-/
import Derived.Test.YtckochcocflleaaPqBz

/-
  Layer 16: the law PixelMet, walked.
-/
namespace Go.Proofs.Ytckochcocflleaa
open Go.RowKit
set_option linter.unusedVariables false

theorem mid_row {a b n c : Int} (hc : 0 < c) : rowS a b (midI (a * c + (b - a) * n) c) n c := by
  unfold rowS midI
  have e : a * c + (b - a) * n = a * c + n * (b - a) := by rw [Int.mul_comm (b - a)]
  rw [e]
  generalize a * c + n * (b - a) = X
  have h1 := Int.ediv_mul_le (X + 32 * c) (b := 64 * c) (by omega)
  have h2 := Int.lt_ediv_add_one_mul_self (X + 32 * c) (b := 64 * c) (by omega)
  generalize (X + 32 * c) / (64 * c) = q at *
  have e1 : q * (64 * c) = 64 * q * c := by grind
  have e2 : (q + 1) * (64 * c) = 64 * q * c + 64 * c := by grind
  have e3 : (64 * q - 32) * c = 64 * q * c - 32 * c := by grind
  have e4 : (64 * q + 32) * c = 64 * q * c + 32 * c := by grind
  omega
theorem hit_start (l : Ln) : HitG l.ax l.ay l.bx l.bz (pxI l.ax) (pxI l.ay) := hit_at (p := 0) (q := 1) (by omega) (by omega) (by omega) (by omega) (by omega)
theorem hit_stop (l : Ln) : HitG l.ax l.ay l.bx l.bz (pxI l.bx) (pxI l.bz) := hit_at (p := 1) (q := 1) (by omega) (by omega) (by omega) (by omega) (by omega)
theorem cross_hit (s t : Ln) (h : cC s t ≠ 0) (hk : (crossCp s t).k = 1) : HitG s.ax s.ay s.bx s.bz (midI (crossCp s t).x (crossCp s t).d) (midI (crossCp s t).y (crossCp s t).d) := by
  unfold crossCp at *
  by_cases h0 : cC s t < 0
  · rw [if_pos h0] at *
    rcases crossPos_k s (-nC s t) (-mC s t) (-cC s t) with ⟨hi, e⟩ | ⟨_, e⟩
    · rw [e]
      have := in01_iff.1 hi
      exact ⟨-nC s t, -cC s t, by omega, by omega, by omega, mid_row (by omega), mid_row (by omega)⟩
    · rw [e] at hk; cases hk
  · rw [if_neg h0] at *
    rcases crossPos_k s (nC s t) (mC s t) (cC s t) with ⟨hi, e⟩ | ⟨_, e⟩
    · rw [e]
      have := in01_iff.1 hi
      exact ⟨nC s t, cC s t, by omega, by omega, by omega, mid_row (by omega), mid_row (by omega)⟩
    · rw [e] at hk; cases hk
/-- Each hot pixel is hit. -/
theorem hot_hit {L : List Ln} {e : Int × Int} (h : IsHot L e) : ∃ l ∈ L, HitG l.ax l.ay l.bx l.bz e.1 e.2 := by
  rcases h with ⟨l, hl, h⟩ | ⟨s, hs, t, ht, hk, h⟩
  · rcases h with rfl | rfl
    · exact ⟨l, hl, hit_start l⟩
    · exact ⟨l, hl, hit_stop l⟩
  · obtain ⟨ha, he⟩ := meet_k_apart hk
    rw [he] at hk h
    have hx : pixX (meetG s t) = midI (meetG s t).x (meetG s t).d := if_pos hk
    have hy : pixY (meetG s t) = midI (meetG s t).y (meetG s t).d := if_pos hk
    rw [hx, hy] at h
    unfold meetG at h hk
    rw [ha, if_neg (by simp)] at h hk
    by_cases h0 : cC s t = 0
    · rw [if_pos h0] at h hk
      rcases touch_cases (ends s t) with ⟨_, e'⟩ | ⟨x, hx', e'⟩ | e'
      · rw [e'] at hk; cases hk
      · rw [e'] at h
        simp only [mid_one] at h
        rw [h]
        rcases mem_ends.1 hx' with ⟨rfl, _⟩ | ⟨rfl, _⟩ | ⟨rfl, _⟩ | ⟨rfl, _⟩
        · exact ⟨s, hs, hit_start s⟩
        · exact ⟨s, hs, hit_stop s⟩
        · exact ⟨t, ht, hit_start t⟩
        · exact ⟨t, ht, hit_stop t⟩
      · rw [e'] at hk; cases hk
    · rw [if_neg h0] at h hk
      rw [h]
      exact ⟨s, hs, cross_hit s t h0 hk⟩
def anyHit (L : List Ln) (p : Pq) : Bool := L.any fun l => hitB l p.x p.y
theorem hot_any {L : List Ln} {H : List Pq} (hg : ∀ l ∈ L, lnG l = true) (hH : HotL L H) {p : Pq} (hp : p ∈ H) (hn : anyHit L p = false) : pixG p.x p.y = false := by
  cases hx : pixG p.x p.y
  · rfl
  · obtain ⟨l, hl, h⟩ := hot_hit ((hH.2 p).1 hp)
    unfold anyHit at hn
    rw [List.any_eq_false] at hn
    have h2 := hn l hl
    unfold hitB at h2
    have e1 : (goodB l.ax l.ay && goodB l.bx l.bz) = true := hg l hl
    rw [e1, hx, (hit_iff _ _ _ _ _ _).2 h] at h2
    exact absurd rfl h2
theorem any_take {α : Type} {L : List α} {f : α → Bool} {j : Nat} {a : α} (h : L[j]? = some a) : (L.take (j + 1)).any f = ((L.take j).any f || f a) := by
  rw [List.take_add_one, h, List.any_append]
  simp
def isAt (u v : Int) (q : Pq) : Bool := q.x == u && q.y == v
theorem found_any {H : List Pq} {u v : Int} (h : (⟨u, v⟩ : Pq) ∈ H) : H.any (isAt u v) = true := by
  rw [List.any_eq_true]
  exact ⟨_, h, by simp [isAt]⟩
set_option maxHeartbeats 1000000 in
theorem rf_lesser (p q : Pq) (h : LtP p q) (w : World) : Calls Try.prog 30 #[Pt p.x p.y, Pt q.x q.y] w fun e w' => e = .returned (.bool true) ∧ Since w w' := by
  unfold LtP at h
  unfold Pt
  obtain ⟨x, y⟩ := p
  obtain ⟨u, v⟩ := q
  simp only at h ⊢
  by_cases hx : x < u
  · have d1 : decide (x < u) = true := by simp [hx]
    clear h
    go_enter Try.func30, Try.ntmps30
    go_wp2
    go_ret
    exact ⟨by first | rfl | simp, by (repeat (first | with_reducible (exact Since.refl _) | with_reducible assumption | with_reducible (refine Since.drew ?_) | with_reducible (refine Since.drewN ?_ _) | with_reducible (refine Since.alloc ?_ _) | (with_reducible (refine Since.setCell ?_ ?_ _); rotate_left; focus (first | (simp; done) | (simp; omega) | omega)) | (with_reducible (refine Since.trans ?_ (by with_reducible assumption)))))⟩
  · have d1 : decide (x < u) = false := by simp; omega
    obtain ⟨rfl, hy⟩ : x = u ∧ y < v := by omega
    have d2 : decide (y < v) = true := by simp [hy]
    clear h
    go_enter Try.func30, Try.ntmps30
    go_wp2
    go_ret
    exact ⟨by first | rfl | simp, by (repeat (first | with_reducible (exact Since.refl _) | with_reducible assumption | with_reducible (refine Since.drew ?_) | with_reducible (refine Since.drewN ?_ _) | with_reducible (refine Since.alloc ?_ _) | (with_reducible (refine Since.setCell ?_ ?_ _); rotate_left; focus (first | (simp; done) | (simp; omega) | omega)) | (with_reducible (refine Since.trans ?_ (by with_reducible assumption)))))⟩
theorem own_max {α : Type} {enc : α → List Value} {t : TypeId} {k base : Nat} {w : World} {v : Value} {L : List α} (h : OwnG t k enc w base v L) : L.length ≤ maxLen := by
  rcases h.2 with ⟨_, h0⟩ | ⟨g, cap, cur, _, _, _, h1, h2, _⟩
  · have h0 : L.length = 0 := h0
    rw [h0]; exact Nat.zero_le _
  · exact Nat.le_trans h1 h2
theorem px_hot_small (A : Option Addr) (c : Nat) (L : List Ln) (w : World) (hr : RdG 4 lnE w w.heap.size A L) (hwf : ∀ l ∈ L, l.wf) (hL : L.length ≤ 4096) :
    Calls Try.prog 29 #[.slice A L.length c] w fun e w' => (e = .returned (.tuple #[.slice none 0 0, .int .i64 6]) ∧ Since w w') ∨ (∃ B m d H, e = .returned (.tuple #[.slice B m d, .int .i64 0]) ∧ Hid (m = H.length) ∧ m ≤ 9223372036854775807 ∧ Hid (RdG 2 ptL w' w'.heap.size B H) ∧ Hid (∀ l ∈ L, lnG l = true) ∧ Hid (HotL L H) ∧ Since w w') := by
  refine (px_hot A c L w hr hwf).mono ?_
  rintro e w' ⟨hS, (⟨hb, -⟩ | ⟨-, -, rfl⟩ | ⟨-, hG, v, H, rfl, hO, hH⟩)⟩
  · omega
  · exact .inl ⟨rfl, hS⟩
  · have hd := own_max hO
    unfold maxLen at hd
    obtain ⟨B, d, rfl, _, hq⟩ := hO.rd (by omega) ptL_len
    exact .inr ⟨B, H.length, d, H, rfl, Lib.hid rfl, hd, Lib.hid hq, Lib.hid hG, Lib.hid hH, hS⟩
set_option maxRecDepth 1000000 in
theorem ix2p (a b c d : Value) (w : World) : (Instr.index 54 (.agg #[a, b, c, d]) (.int .i64 0)).run Try.prog w = .ok (.agg #[a, b]) w ∧ (Instr.index 54 (.agg #[a, b, c, d]) (.int .i64 1)).run Try.prog w = .ok (.agg #[c, d]) w := ⟨by kernel_rfl, by kernel_rfl⟩
set_option maxRecDepth 1000000 in
set_option maxHeartbeats 16000000 in
theorem walk_pixelmet (A : Option Addr) (c : Nat) (L : List Ln) (w : World) (hr : RdG 4 lnE w w.heap.size A L) (hwf : ∀ l ∈ L, l.wf) :
    Calls Try.prog 7 #[.slice A L.length c] w fun e w' => e = .returned (.bool true) ∧ Since w w' := by
  have HA := Lib.hid (fun w => alive16 w)
  obtain ⟨n, hn⟩ : ∃ n, n = L.length := ⟨_, rfl⟩
  have HN := Lib.hid hn
  have hHot := fun w (h : RdG 4 lnE w w.heap.size A L) (h4 : n ≤ 4096) => px_hot_small A c L w h hwf (by rw [← hn]; exact h4)
  rw [← hn] at hHot ⊢
  have HR := Lib.hid hr; have HWF := Lib.hid hwf; have HHOT := Lib.hid hHot
  clear hn hr hwf hHot
  by_cases hn100 : n ≤ 100
  · have hn' : ¬ (100 : Int) < n := by omega
    go_enter Try.func7, Try.ntmps7
    go_upto_region 6 with (first | (go_at_call 19; (with_reducible refine (HA.out _).mono ?_); rintro e w1 ⟨rfl, hS1⟩) | (go_at_call 29; (with_reducible refine (HHOT.out _ (HR.out.on hS1) (by omega)).mono ?_); rintro e w2 (⟨rfl, hS2⟩ | ⟨B, m, d, H, rfl, HM, hd, HQ, HG, HH, hS2⟩)))
    · clear HA HHOT HR HWF
      go_wp2_with fail
      go_ret
      exact ⟨by first | rfl | simp, (by (repeat (first | with_reducible (exact Since.refl _) | with_reducible assumption | with_reducible (refine Since.drew ?_) | with_reducible (refine Since.drewN ?_ _) | with_reducible (refine Since.alloc ?_ _) | (with_reducible (refine Since.setCell ?_ ?_ _); rotate_left; focus (first | (simp; done) | (simp; omega) | omega)) | (with_reducible (refine Since.trans ?_ (by with_reducible assumption))))))⟩
    · have hT2 := hS1.trans hS2
      clear HA HHOT hS1 hS2
      go_wp2_with fail
      go_loopw [34] (fun y wr => ∃ i : Nat, i ≤ m ∧ y = .int .i64 (i : Int) ∧ Since w2 wr) (fun y _ => m - (intOf y).toNat)
      case atStart => exact ⟨0, by omega, rfl, Since.refl _⟩
      case round =>
        obtain ⟨i, hi, rfl, hS⟩ := hrel
        by_cases him : i < m
        · have him' : (i : Int) < m := by omega
          have hmm := HM.out
          obtain ⟨b, o, rfl, hb, hcell⟩ := HQ.out (by omega)
          obtain ⟨p, hp⟩ : ∃ p, H[i]? = some p := ⟨_, List.getElem?_eq_getElem (by omega)⟩
          have hpH := List.mem_of_getElem? hp
          have c0 := (hS.1 _ _ hb).trans (hcell i p hp 0 (by omega))
          have c1 := (hS.1 _ _ hb).trans (hcell i p hp 1 (by omega))
          simp only [ptL, List.getD_cons_succ, List.getD_cons_zero, Nat.add_zero] at c0 c1
          have hbr : b < wr.heap.size := hS.2.2.1 _ hb
          have hi0 : (0 : Int) ≤ i := by omega
          have HP := Lib.hid hp; have HPH := Lib.hid hpH; have HC := Lib.hid hcell
          clear hmm hp hpH hcell
          go_upto_region 11 with fail
          refine wp_named fun wa hwa => ?_
          have hTa : Since wr wa := by subst hwa; exact (Since.refl _).alloc _
          have hPa : PtAt wa wr.heap.size p.x p.y := by subst hwa; exact pt_new wr _ rfl _ _ _
          have hSa := hS.trans hTa
          clear hwa c0 c1 hTa hS hbr
          generalize wr.heap.size = bp at *
          obtain ⟨p1, p2, p3⟩ := id hPa
          go_cut [50] (fun v wx => v = .bool false ∧ Since wa wx)
          case first =>
            by_cases hi1 : 0 < i
            · have y1 : IntKind.i64.wrap ((i : Int) - 1) = (i : Int) - 1 := IntWalk.i64_in _ (by omega)
              have y2 : (1 : Int) ≤ (i : Int) := by omega
              have y5 : (0 : Int) ≤ (i : Int) - 1 := by omega
              have y3 : (i : Int) - 1 < m := by omega
              have y4 : ((i : Int) - 1).toNat = i - 1 := by omega
              have y6 : decide ((0 : Int) < (i : Int)) = true := by simp [hi1]
              obtain ⟨q, hq⟩ : ∃ q, H[i - 1]? = some q := ⟨_, List.getElem?_eq_getElem (by have := HM.out; omega)⟩
              have c0 := (hSa.1 _ _ hb).trans (HC.out (i - 1) q hq 0 (by omega))
              have c1 := (hSa.1 _ _ hb).trans (HC.out (i - 1) q hq 1 (by omega))
              simp only [ptL, List.getD_cons_succ, List.getD_cons_zero, Nat.add_zero] at c0 c1
              have hba : b < wa.heap.size := hSa.2.2.1 _ hb
              have hlt : LtP q p := by
                obtain ⟨k1, e1⟩ := List.getElem?_eq_some_iff.1 hq
                obtain ⟨k2, e2⟩ := List.getElem?_eq_some_iff.1 HP.out
                rw [← e1, ← e2]
                exact List.pairwise_iff_getElem.1 HH.out.1 (i - 1) i k1 k2 (by omega)
              have hle := fun w => rf_lesser q p hlt w
              unfold Pt at hle
              have HLE := Lib.hid hle
              clear hle hlt hq
              (refine wp_named fun wr11 hwr11 => ?_; go_region_held3 (fun w' => (∀ b o, b < wr11.heap.size → w'.cell? ⟨b, o, none⟩ = wr11.cell? ⟨b, o, none⟩) ∧ (∀ b o, b < wr11.heap.size → w'.frozen? ⟨b, o, none⟩ = wr11.frozen? ⟨b, o, none⟩) ∧ (∀ k, k < wr11.heap.size → k < w'.heap.size) ∧ Below wr11.heap.size wr11 w') ((subst hwr11; (repeat (with_reducible (refine since_put ?_ ?_ _); rotate_left; focus (first | (simp; done) | (simp; omega) | omega))); first | with_reducible assumption | (refine since_step (by with_reducible assumption) ?_; first | with_reducible assumption | ((repeat (first | with_reducible (exact Since.refl _) | with_reducible assumption | with_reducible (refine Since.drew ?_) | with_reducible (refine Since.drewN ?_ _) | with_reducible (refine Since.alloc ?_ _) | (with_reducible (refine Since.setCell ?_ ?_ _); rotate_left; focus (first | (simp; done) | (simp; omega) | omega)))); done)) | (refine since_step (Since.refl _) ?_; first | with_reducible assumption | ((repeat (first | with_reducible (exact Since.refl _) | with_reducible assumption | with_reducible (refine Since.drew ?_) | with_reducible (refine Since.drewN ?_ _) | with_reducible (refine Since.alloc ?_ _) | (with_reducible (refine Since.setCell ?_ ?_ _); rotate_left; focus (first | (simp; done) | (simp; omega) | omega)) | (with_reducible (refine Since.trans ?_ (by with_reducible assumption))))); done)))) (first | (go_at_call 30; (with_reducible refine (HLE.out _).mono ?_); rintro e w1 ⟨rfl, hS⟩; have hZ := hS.below.size; (try simp at hZ))); all_goals (rename_i hHeld; have hR11 : Since wr11 _ := hHeld; obtain ⟨hcR11, hfR11, hzR11, hbR11⟩ := hHeld; subst hwr11))
              all_goals go_wp2_with fail
              all_goals go_meet
              all_goals exact ⟨rfl, by (repeat (first | with_reducible (exact Since.refl _) | with_reducible assumption | with_reducible (refine Since.drew ?_) | with_reducible (refine Since.drewN ?_ _) | with_reducible (refine Since.alloc ?_ _) | (with_reducible (refine Since.setCell ?_ ?_ _); rotate_left; focus (first | (simp; done) | (simp; omega) | omega)) | (with_reducible (refine Since.trans ?_ (by with_reducible assumption)))))⟩
            · have y6 : decide ((0 : Int) < (i : Int)) = false := by simp; omega
              go_region
              all_goals go_wp2_with fail
              all_goals go_meet
              all_goals exact ⟨rfl, by (repeat (first | with_reducible (exact Since.refl _) | with_reducible assumption | with_reducible (refine Since.drew ?_) | with_reducible (refine Since.drewN ?_ _) | with_reducible (refine Since.alloc ?_ _) | (with_reducible (refine Since.setCell ?_ ?_ _); rotate_left; focus (first | (simp; done) | (simp; omega) | omega)) | (with_reducible (refine Since.trans ?_ (by with_reducible assumption)))))⟩
          obtain ⟨rfl, hSc⟩ := hcut
          have hPc := hPa.since hSc
          have hTc := hSa.trans hSc
          clear hPa hSa hSc p1 p2 p3
          have HTC := Lib.hid (hT2.trans hTc)
          obtain ⟨p1, p2, p3⟩ := id hPc
          go_wp2_with fail
          go_loopw [7, 53] (fun h y wk => ∃ j : Nat, j ≤ n ∧ h = .bool ((L.take j).any fun l => hitB l p.x p.y) ∧ y = .int .i64 (j : Int) ∧ Since wc wk) (fun _ y _ => n - (intOf y).toNat)
          case atStart => exact ⟨0, by omega, rfl, rfl, Since.refl _⟩
          case round =>
            obtain ⟨j, hj, rfl, rfl, hSk⟩ := hrel
            have hPk := hPc.since hSk
            have hTk := hTc.trans hSk
            by_cases hjn : j < n
            · have hjn' : (j : Int) < n := by omega
              obtain ⟨b', o', rfl, hb', hcell'⟩ := HR.out (by have := HN.out; omega)
              obtain ⟨s, hs⟩ : ∃ s, L[j]? = some s := ⟨_, List.getElem?_eq_getElem (by have := HN.out; omega)⟩
              have hwk : Since w wr := HTC.out.trans hSk
              have c0 := (hwk.1 _ _ hb').trans (hcell' j s hs 0 (by omega))
              have c1 := (hwk.1 _ _ hb').trans (hcell' j s hs 1 (by omega))
              have c2 := (hwk.1 _ _ hb').trans (hcell' j s hs 2 (by omega))
              have c3 := (hwk.1 _ _ hb').trans (hcell' j s hs 3 (by omega))
              simp only [lnE, List.getD_cons_succ, List.getD_cons_zero, Nat.add_zero] at c0 c1 c2 c3
              have hbr : b' < wr.heap.size := hwk.2.2.1 _ hb'
              have hj0 : (0 : Int) ≤ j := by omega
              have hht := fun w => px_hits s (HWF.out s (List.mem_of_getElem? hs)) p.x p.y w
              have hat := any_take (f := fun l => hitB l p.x p.y) hs
              unfold Ln.v Pt at hht
              have HHT := Lib.hid hht; have HAT := Lib.hid hat
              clear hht hat hs hcell' hwk
              go_upto_region 17 with fail
              refine wp_named fun wb hwb => ?_
              have hTb : Since wr wb := by subst hwb; exact (Since.refl _).alloc _
              have hLb : LnAt wb wr.heap.size s := by subst hwb; exact ln_new wr _ rfl s _
              have hPb := hPk.since hTb
              have hSb := hSk.trans hTb
              clear hwb c0 c1 c2 c3 hTb hPk hTk hbr
              generalize wr.heap.size = bl at *
              obtain ⟨l1, l2, l3, l4, l5⟩ := id hLb
              obtain ⟨p1, p2, p3⟩ := id hPb
              generalize hF : ((L.take j).any fun l => hitB l p.x p.y) = F at *
              clear hF
              cases F
              · go_wp2_with (go_at_call 23; (with_reducible refine (HHT.out _).mono ?_); rintro e w5 ⟨rfl, hS5⟩)
                go_roundw
                case rel => exact ⟨j + 1, by omega, by rw [HAT.out]; rfl, by go_num, hSb.trans hS5⟩
                case measure => simp only [intOf]; omega
              · go_wp2_with fail
                go_roundw
                case rel => exact ⟨j + 1, by omega, by rw [HAT.out]; rfl, by go_num, hSb⟩
                case measure => simp only [intOf]; omega
            · obtain rfl : j = n := by omega
              have hany : ((L.take j).any fun l => hitB l p.x p.y) = anyHit L p := by rw [List.take_of_length_le (by rw [← HN.out]; exact Nat.le_refl _)]; rfl
              rw [hany]
              obtain ⟨p1, p2, p3⟩ := id hPk
              have hjn' : ¬ (j : Int) < j := by omega
              cases hF : anyHit L p
              · have hgd := fun w => rf16_good p.x p.y w
                rw [hot_any HG.out HH.out HPH.out hF] at hgd
                unfold Pt at hgd
                have HGD := Lib.hid hgd
                clear hgd hF hany
                go_wp2_with (go_at_call 25; (with_reducible refine (HGD.out _).mono ?_); rintro e w6 ⟨rfl, hS6⟩; have hT6 := hTk.trans hS6)
                go_roundw
                case rel => exact ⟨i + 1, by omega, by go_num, hT6⟩
                case measure => simp only [intOf]; omega
              · clear hF hany
                go_wp2_with fail
                go_roundw
                case rel => exact ⟨i + 1, by omega, by go_num, hTk⟩
                case measure => simp only [intOf]; omega
        · obtain rfl : i = m := by omega
          have him' : ¬ (i : Int) < i := by omega
          have hU := hT2.trans hS
          have hS20 := Lib.hid hS
          clear hS hT2
          go_wp2_with fail
          generalize hwr0 : wr = wr0 at *
          clear hwr0 wr
          have hS0 : Since wr0 wr0 := Since.refl _
          go_loopw [73] (fun y wk => ∃ j : Nat, j ≤ n ∧ y = .int .i64 (j : Int) ∧ Since wr0 wk) (fun y _ => n - (intOf y).toNat)
          case atStart => exact ⟨0, by omega, rfl, Since.refl _⟩
          case round =>
            obtain ⟨j, hj, rfl, hSk⟩ := hrel
            by_cases hjn : j < n
            · have hjn' : (j : Int) < n := by omega
              obtain ⟨b', o', rfl, hb', hcell'⟩ := HR.out (by have := HN.out; omega)
              obtain ⟨s, hs⟩ : ∃ s, L[j]? = some s := ⟨_, List.getElem?_eq_getElem (by have := HN.out; omega)⟩
              have hsL := List.mem_of_getElem? hs
              have hwk : Since w wr := hU.trans hSk
              have c0 := (hwk.1 _ _ hb').trans (hcell' j s hs 0 (by omega))
              have c1 := (hwk.1 _ _ hb').trans (hcell' j s hs 1 (by omega))
              have c2 := (hwk.1 _ _ hb').trans (hcell' j s hs 2 (by omega))
              have c3 := (hwk.1 _ _ hb').trans (hcell' j s hs 3 (by omega))
              simp only [lnE, List.getD_cons_succ, List.getD_cons_zero, Nat.add_zero] at c0 c1 c2 c3
              have hbr : b' < wr.heap.size := hwk.2.2.1 _ hb'
              have hj0 : (0 : Int) ≤ j := by omega
              have HSL := Lib.hid hsL
              clear hs hcell' hwk hsL
              go_upto_region 25 with fail
              refine wp_named fun wb hwb => ?_
              have hTb : Since wr wb := by subst hwb; exact (Since.refl _).alloc _
              have hLb : LnAt wb wr.heap.size s := by subst hwb; exact ln_new wr _ rfl s _
              have hSb := hSk.trans hTb
              clear hwb c0 c1 c2 c3 hTb hbr hSk
              generalize wr.heap.size = bl at *
              obtain ⟨l1, l2, l3, l4, l5⟩ := id hLb
              go_wp2_with fail
              clear l1 l2 l3 l4 l5 hLb
              go_loopw [82] (fun y wk => ∃ k : Nat, k ≤ 2 ∧ y = .int .i64 (k : Int) ∧ Since wr0 wk) (fun y _ => 2 - (intOf y).toNat)
              case atStart => exact ⟨0, by omega, rfl, hSb⟩
              case round =>
                obtain ⟨k, hk, rfl, hSk⟩ := hrel
                by_cases hk2 : k < 2
                · have hk2' : (k : Int) < 2 := by omega
                  obtain ⟨px, py, hix, hin⟩ : ∃ px py, (∀ w, (Instr.index 54 (.agg #[.int .i64 s.ax, .int .i64 s.ay, .int .i64 s.bx, .int .i64 s.bz]) (.int .i64 (k : Int))).run Try.prog w = .ok (.agg #[.int .i64 px, .int .i64 py]) w) ∧ Hid (goodB px py = true ∧ H.any (isAt (pxI px) (pxI py)) = true) := by
                    have hg := HG.out s HSL.out
                    unfold lnG at hg
                    obtain ⟨g1, g2⟩ := Bool.and_eq_true_iff.1 hg
                    have hk01 : k = 0 ∨ k = 1 := by omega
                    rcases hk01 with rfl | rfl
                    · exact ⟨s.ax, s.ay, fun w => (ix2p _ _ _ _ w).1, Lib.hid ⟨g1, found_any ((HH.out.2 ⟨pxI s.ax, pxI s.ay⟩).2 (.inl ⟨s, HSL.out, .inl rfl⟩))⟩⟩
                    · exact ⟨s.bx, s.bz, fun w => (ix2p _ _ _ _ w).2, Lib.hid ⟨g2, found_any ((HH.out.2 ⟨pxI s.bx, pxI s.bz⟩).2 (.inl ⟨s, HSL.out, .inr rfl⟩))⟩⟩
                  have hgb := goodB_iff.1 hin.out.1
                  have HF := Lib.hid hin.out.2
                  have hof := fun w => px_of px py (by omega) (by omega) w
                  generalize pxI px = U at *
                  generalize pxI py = V at *
                  unfold Pt at hof
                  have HOF := Lib.hid hof
                  have hk0 : (0 : Int) ≤ k := by omega
                  have yk : IntKind.i64.wrap ((k : Int) + 1) = (k : Int) + 1 := IntWalk.i64_in _ (by omega)
                  clear hof hgb hin
                  go_upto_region 28 with fail
                  refine wp_named fun wd hwd => ?_
                  have hTd : Since wr wd := by subst hwd; exact (Since.refl _).alloc _
                  have hPd : PtAt wd wr.heap.size px py := by subst hwd; exact pt_new wr _ rfl _ _ _
                  have hSd := hSk.trans hTd
                  clear hwd hTd hSk hix
                  generalize wr.heap.size = bq at *
                  go_wp2_with fail
                  go_loopw [14, 87] (fun f y wk => ∃ q : Nat, q ≤ i ∧ f = .bool ((H.take q).any (isAt U V)) ∧ y = .int .i64 (q : Int) ∧ Since wd wk) (fun _ y _ => i - (intOf y).toNat)
                  case atStart => exact ⟨0, by omega, rfl, rfl, Since.refl _⟩
                  case round =>
                    obtain ⟨q, hq, rfl, rfl, hSq⟩ := hrel
                    have hPk := hPd.since hSq
                    have hSr := hSd.trans hSq
                    by_cases hqi : q < i
                    · have hqi' : (q : Int) < i := by omega
                      obtain ⟨b2, o2, rfl, hb2, hcell2⟩ := HQ.out (by have := HM.out; omega)
                      obtain ⟨z, hz⟩ : ∃ z, H[q]? = some z := ⟨_, List.getElem?_eq_getElem (by have := HM.out; omega)⟩
                      have hat := any_take (f := isAt U V) hz
                      have hwk : Since w2 wr := hS20.out.trans hSr
                      have c0 := (hwk.1 _ _ hb2).trans (hcell2 q z hz 0 (by omega))
                      have c1 := (hwk.1 _ _ hb2).trans (hcell2 q z hz 1 (by omega))
                      simp only [ptL, List.getD_cons_succ, List.getD_cons_zero, Nat.add_zero] at c0 c1
                      have hbr : b2 < wr.heap.size := hwk.2.2.1 _ hb2
                      have hq0 : (0 : Int) ≤ q := by omega
                      have HAT := Lib.hid hat
                      clear hat hz hcell2 hwk
                      go_upto_region 32 with fail
                      refine wp_named fun we hwe => ?_
                      have hTe : Since wr we := by subst hwe; exact (Since.refl _).alloc _
                      have hPe := hPk.since hTe
                      have hZe : PtAt we wr.heap.size z.x z.y := by subst hwe; exact pt_new wr _ rfl _ _ _
                      have hSe := hSq.trans hTe
                      clear hwe hTe hPk hSq hSr c0 c1 hbr
                      generalize wr.heap.size = bz at *
                      obtain ⟨p1, p2, p3⟩ := id hPe
                      obtain ⟨z1, z2, z3⟩ := id hZe
                      have yq : IntKind.i64.wrap ((q : Int) + 1) = (q : Int) + 1 := IntWalk.i64_in _ (by omega)
                      generalize hF : (H.take q).any (isAt U V) = F at *
                      clear hF
                      cases F
                      · by_cases ex : z.x = U
                        · by_cases ey : z.y = V
                          · have hE : isAt U V z = true := by simp [isAt, ex, ey]
                            rw [hE] at HAT
                            subst ex ey
                            clear hE
                            (refine wp_named fun wr32 hwr32 => ?_; go_region_held3 (fun w' => (∀ b o, b < wr32.heap.size → w'.cell? ⟨b, o, none⟩ = wr32.cell? ⟨b, o, none⟩) ∧ (∀ b o, b < wr32.heap.size → w'.frozen? ⟨b, o, none⟩ = wr32.frozen? ⟨b, o, none⟩) ∧ (∀ k, k < wr32.heap.size → k < w'.heap.size) ∧ Below wr32.heap.size wr32 w') ((subst hwr32; (repeat (with_reducible (refine since_put ?_ ?_ _); rotate_left; focus (first | (simp; done) | (simp; omega) | omega))); first | with_reducible assumption | (refine since_step (by with_reducible assumption) ?_; first | with_reducible assumption | ((repeat (first | with_reducible (exact Since.refl _) | with_reducible assumption | with_reducible (refine Since.drew ?_) | with_reducible (refine Since.drewN ?_ _) | with_reducible (refine Since.alloc ?_ _) | (with_reducible (refine Since.setCell ?_ ?_ _); rotate_left; focus (first | (simp; done) | (simp; omega) | omega)))); done)) | (refine since_step (Since.refl _) ?_; first | with_reducible assumption | ((repeat (first | with_reducible (exact Since.refl _) | with_reducible assumption | with_reducible (refine Since.drew ?_) | with_reducible (refine Since.drewN ?_ _) | with_reducible (refine Since.alloc ?_ _) | (with_reducible (refine Since.setCell ?_ ?_ _); rotate_left; focus (first | (simp; done) | (simp; omega) | omega)) | (with_reducible (refine Since.trans ?_ (by with_reducible assumption))))); done)))) (first | (go_at_call 20; (with_reducible refine (HOF.out _).mono ?_); rintro e w1 ⟨rfl, hS⟩; have hZ := hS.below.size; (try simp at hZ))); all_goals (rename_i hHeld; have hR32 : Since wr32 _ := hHeld; obtain ⟨hcR32, hfR32, hzR32, hbR32⟩ := hHeld; subst hwr32))
                            all_goals go_wp2_with fail
                            all_goals go_roundw
                            case rel => exact ⟨q + 1, by omega, by rw [HAT.out]; rfl, by go_num, hSe.trans (by (repeat (first | with_reducible (exact Since.refl _) | with_reducible assumption | with_reducible (refine Since.drew ?_) | with_reducible (refine Since.drewN ?_ _) | with_reducible (refine Since.alloc ?_ _) | (with_reducible (refine Since.setCell ?_ ?_ _); rotate_left; focus (first | (simp; done) | (simp; omega) | omega)) | (with_reducible (refine Since.trans ?_ (by with_reducible assumption))))))⟩
                            case measure => simp only [intOf]; omega
                          · have hE : isAt U V z = false := by simp [isAt, ey]
                            rw [hE] at HAT
                            subst ex
                            have e2 : (z.y == V) = false := by simp [ey]
                            clear hE
                            (refine wp_named fun wr32 hwr32 => ?_; go_region_held3 (fun w' => (∀ b o, b < wr32.heap.size → w'.cell? ⟨b, o, none⟩ = wr32.cell? ⟨b, o, none⟩) ∧ (∀ b o, b < wr32.heap.size → w'.frozen? ⟨b, o, none⟩ = wr32.frozen? ⟨b, o, none⟩) ∧ (∀ k, k < wr32.heap.size → k < w'.heap.size) ∧ Below wr32.heap.size wr32 w') ((subst hwr32; (repeat (with_reducible (refine since_put ?_ ?_ _); rotate_left; focus (first | (simp; done) | (simp; omega) | omega))); first | with_reducible assumption | (refine since_step (by with_reducible assumption) ?_; first | with_reducible assumption | ((repeat (first | with_reducible (exact Since.refl _) | with_reducible assumption | with_reducible (refine Since.drew ?_) | with_reducible (refine Since.drewN ?_ _) | with_reducible (refine Since.alloc ?_ _) | (with_reducible (refine Since.setCell ?_ ?_ _); rotate_left; focus (first | (simp; done) | (simp; omega) | omega)))); done)) | (refine since_step (Since.refl _) ?_; first | with_reducible assumption | ((repeat (first | with_reducible (exact Since.refl _) | with_reducible assumption | with_reducible (refine Since.drew ?_) | with_reducible (refine Since.drewN ?_ _) | with_reducible (refine Since.alloc ?_ _) | (with_reducible (refine Since.setCell ?_ ?_ _); rotate_left; focus (first | (simp; done) | (simp; omega) | omega)) | (with_reducible (refine Since.trans ?_ (by with_reducible assumption))))); done)))) (first | (go_at_call 20; (with_reducible refine (HOF.out _).mono ?_); rintro e w1 ⟨rfl, hS⟩; have hZ := hS.below.size; (try simp at hZ))); all_goals (rename_i hHeld; have hR32 : Since wr32 _ := hHeld; obtain ⟨hcR32, hfR32, hzR32, hbR32⟩ := hHeld; subst hwr32))
                            all_goals go_wp2_with fail
                            all_goals go_roundw
                            case rel => exact ⟨q + 1, by omega, by rw [HAT.out]; rfl, by go_num, hSe.trans (by (repeat (first | with_reducible (exact Since.refl _) | with_reducible assumption | with_reducible (refine Since.drew ?_) | with_reducible (refine Since.drewN ?_ _) | with_reducible (refine Since.alloc ?_ _) | (with_reducible (refine Since.setCell ?_ ?_ _); rotate_left; focus (first | (simp; done) | (simp; omega) | omega)) | (with_reducible (refine Since.trans ?_ (by with_reducible assumption))))))⟩
                            case measure => simp only [intOf]; omega
                        · have hE : isAt U V z = false := by simp [isAt, ex]
                          rw [hE] at HAT
                          have e1 : (z.x == U) = false := by simp [ex]
                          clear hE
                          (refine wp_named fun wr32 hwr32 => ?_; go_region_held3 (fun w' => (∀ b o, b < wr32.heap.size → w'.cell? ⟨b, o, none⟩ = wr32.cell? ⟨b, o, none⟩) ∧ (∀ b o, b < wr32.heap.size → w'.frozen? ⟨b, o, none⟩ = wr32.frozen? ⟨b, o, none⟩) ∧ (∀ k, k < wr32.heap.size → k < w'.heap.size) ∧ Below wr32.heap.size wr32 w') ((subst hwr32; (repeat (with_reducible (refine since_put ?_ ?_ _); rotate_left; focus (first | (simp; done) | (simp; omega) | omega))); first | with_reducible assumption | (refine since_step (by with_reducible assumption) ?_; first | with_reducible assumption | ((repeat (first | with_reducible (exact Since.refl _) | with_reducible assumption | with_reducible (refine Since.drew ?_) | with_reducible (refine Since.drewN ?_ _) | with_reducible (refine Since.alloc ?_ _) | (with_reducible (refine Since.setCell ?_ ?_ _); rotate_left; focus (first | (simp; done) | (simp; omega) | omega)))); done)) | (refine since_step (Since.refl _) ?_; first | with_reducible assumption | ((repeat (first | with_reducible (exact Since.refl _) | with_reducible assumption | with_reducible (refine Since.drew ?_) | with_reducible (refine Since.drewN ?_ _) | with_reducible (refine Since.alloc ?_ _) | (with_reducible (refine Since.setCell ?_ ?_ _); rotate_left; focus (first | (simp; done) | (simp; omega) | omega)) | (with_reducible (refine Since.trans ?_ (by with_reducible assumption))))); done)))) (first | (go_at_call 20; (with_reducible refine (HOF.out _).mono ?_); rintro e w1 ⟨rfl, hS⟩; have hZ := hS.below.size; (try simp at hZ))); all_goals (rename_i hHeld; have hR32 : Since wr32 _ := hHeld; obtain ⟨hcR32, hfR32, hzR32, hbR32⟩ := hHeld; subst hwr32))
                          all_goals go_wp2_with fail
                          all_goals go_roundw
                          case rel => exact ⟨q + 1, by omega, by rw [HAT.out]; rfl, by go_num, hSe.trans (by (repeat (first | with_reducible (exact Since.refl _) | with_reducible assumption | with_reducible (refine Since.drew ?_) | with_reducible (refine Since.drewN ?_ _) | with_reducible (refine Since.alloc ?_ _) | (with_reducible (refine Since.setCell ?_ ?_ _); rotate_left; focus (first | (simp; done) | (simp; omega) | omega)) | (with_reducible (refine Since.trans ?_ (by with_reducible assumption))))))⟩
                          case measure => simp only [intOf]; omega
                      · go_region
                        all_goals go_wp2_with fail
                        all_goals go_roundw
                        case rel => exact ⟨q + 1, by omega, by rw [HAT.out]; rfl, by go_num, hSe.trans (by (repeat (first | with_reducible (exact Since.refl _) | with_reducible assumption | with_reducible (refine Since.drew ?_) | with_reducible (refine Since.drewN ?_ _) | with_reducible (refine Since.alloc ?_ _) | (with_reducible (refine Since.setCell ?_ ?_ _); rotate_left; focus (first | (simp; done) | (simp; omega) | omega)) | (with_reducible (refine Since.trans ?_ (by with_reducible assumption))))))⟩
                        case measure => simp only [intOf]; omega
                    · obtain rfl : q = i := by omega
                      have hall : (H.take q).any (isAt U V) = true := by rw [List.take_of_length_le (by rw [← HM.out]; exact Nat.le_refl _)]; exact HF.out
                      rw [hall]
                      clear hall HF
                      have hqi' : ¬ (q : Int) < q := by omega
                      go_wp2_with fail
                      go_roundw
                      case rel => exact ⟨k + 1, by omega, by go_num, hSr⟩
                      case measure => simp only [intOf]; omega
                · obtain rfl : k = 2 := by omega
                  go_wp2_with fail
                  go_roundw
                  case rel => exact ⟨j + 1, by omega, by go_num, hSk⟩
                  case measure => simp only [intOf]; omega
            · obtain rfl : j = n := by omega
              have hjn' : ¬ (j : Int) < j := by omega
              go_wp2_with fail
              go_ret
              exact ⟨by first | rfl | simp, hU.trans hSk⟩
  · have hn' : (100 : Int) < n := by omega
    go_enter Try.func7, Try.ntmps7
    go_wp2_with (go_at_call 19; (with_reducible refine (HA.out _).mono ?_); rintro e w1 ⟨rfl, hS1⟩)
    go_ret
    exact ⟨by first | rfl | simp, hS1⟩
end Go.Proofs.Ytckochcocflleaa
