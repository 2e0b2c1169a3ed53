/-
  Layer 16's document: 'with', walked.
-/
import Derived.Test.YtckochcocflleaaGreatRwA
import Derived.Test.YtckochcocflleaaGreatMgG
import Derived.Deep.CutBlock
import Derived.Deep.DeepCutAuto
import Derived.BigRegion
namespace Go.Proofs.YtckochcocflleaaGreat
open Go.RowKit
set_option linter.unusedVariables false

def ltPb (p q : Pq) : Bool := decide (p.x < q.x ∨ (p.x = q.x ∧ p.y < q.y))
theorem ltPb_iff {p q : Pq} : ltPb p q = true ↔ LtP p q := by unfold ltPb LtP; simp
set_option maxHeartbeats 1000000 in
theorem rf_lesserB (p q : Pq) (w : World) : Calls Tryz.prog 42 #[Pt p.x p.y, Pt q.x q.y] w fun e w' => e = .returned (.bool (ltPb p q)) ∧ Since w w' := by
  unfold ltPb Pt
  obtain ⟨x, y⟩ := p
  obtain ⟨u, v⟩ := q
  simp only
  by_cases hx : x < u
  · have e : decide (x < u ∨ (x = u ∧ y < v)) = true := by simp [hx]
    have d1 : decide (x < u) = true := by simp [hx]
    rw [e]
    clear e
    go_enter Tryz.func42, Tryz.ntmps42
    go_wp2
    go_ret
    exact ⟨by first | rfl | simp, by (repeat (first | with_reducible (exact Since.refl _) | with_reducible assumption | with_reducible (refine Since.drew ?_) | with_reducible (refine Since.drewN ?_ _) | with_reducible (refine Since.alloc ?_ _) | (with_reducible (refine Since.setCell ?_ ?_ _); rotate_left; focus (first | (simp; done) | (simp; omega) | omega)) | (with_reducible (refine Since.trans ?_ (by with_reducible assumption)))))⟩
  · have d1 : decide (x < u) = false := by simp; omega
    by_cases he : x = u
    · subst he
      by_cases hy : y < v
      · have e : decide (x < x ∨ (x = x ∧ y < v)) = true := by simp [hy]
        have d2 : decide (y < v) = true := by simp [hy]
        rw [e]
        clear e
        go_enter Tryz.func42, Tryz.ntmps42
        go_wp2
        go_ret
        exact ⟨by first | rfl | simp, by (repeat (first | with_reducible (exact Since.refl _) | with_reducible assumption | with_reducible (refine Since.drew ?_) | with_reducible (refine Since.drewN ?_ _) | with_reducible (refine Since.alloc ?_ _) | (with_reducible (refine Since.setCell ?_ ?_ _); rotate_left; focus (first | (simp; done) | (simp; omega) | omega)) | (with_reducible (refine Since.trans ?_ (by with_reducible assumption)))))⟩
      · have e : decide (x < x ∨ (x = x ∧ y < v)) = false := by simp; omega
        have d2 : decide (y < v) = false := by simp; omega
        rw [e]
        clear e
        go_enter Tryz.func42, Tryz.ntmps42
        go_wp2
        go_ret
        exact ⟨by first | rfl | simp, by (repeat (first | with_reducible (exact Since.refl _) | with_reducible assumption | with_reducible (refine Since.drew ?_) | with_reducible (refine Since.drewN ?_ _) | with_reducible (refine Since.alloc ?_ _) | (with_reducible (refine Since.setCell ?_ ?_ _); rotate_left; focus (first | (simp; done) | (simp; omega) | omega)) | (with_reducible (refine Since.trans ?_ (by with_reducible assumption)))))⟩
    · have e : decide (x < u ∨ (x = u ∧ y < v)) = false := by simp; omega
      have d2 : (x == u) = false := by simp [he]
      rw [e]
      clear e
      go_enter Tryz.func42, Tryz.ntmps42
      go_wp2
      go_ret
      exact ⟨by first | rfl | simp, by (repeat (first | with_reducible (exact Since.refl _) | with_reducible assumption | with_reducible (refine Since.drew ?_) | with_reducible (refine Since.drewN ?_ _) | with_reducible (refine Since.alloc ?_ _) | (with_reducible (refine Since.setCell ?_ ?_ _); rotate_left; focus (first | (simp; done) | (simp; omega) | omega)) | (with_reducible (refine Since.trans ?_ (by with_reducible assumption)))))⟩
theorem pt2 {w : World} {q b : Nat} {x y : Int} (h : PtAt w q x y) (hb : b ≠ q) (o o' : Nat) (u v : Value) : PtAt ((w.setCell ⟨b, o, none⟩ u).setCell ⟨b, o', none⟩ v) q x y := by
  obtain ⟨h1, h2, h5⟩ := h
  have e : ∀ j, ((w.setCell ⟨b, o, none⟩ u).setCell ⟨b, o', none⟩ v).cell? ⟨q, j, none⟩ = w.cell? ⟨q, j, none⟩ := fun j => by rw [cell_set, if_neg (fun h => hb h.1), cell_set, if_neg (fun h => hb h.1)]
  exact ⟨(e 0).trans h1, (e 1).trans h2, by simpa [World.setCell] using h5⟩
/-- Where it belongs: all before it are less, the one there isn't. -/
def PosOf (L : List Pq) (p : Pq) (k : Nat) : Prop := k ≤ L.length ∧ (∀ (j : Nat) (q : Pq), j < k → L[j]? = some q → LtP q p) ∧ (∀ q, L[k]? = some q → ¬ LtP q p)
set_option maxRecDepth 1000000 in
set_option maxHeartbeats 16000000 in
theorem rf_with (w0 : World) (base : Nat) (v : Value) (L : List Pq) (p : Pq) (w : World) (hS : Since w0 w) (hb : w0.heap.size ≤ base) (hbw : base ≤ w.heap.size) (hO : OwnG 34 2 ptL w base v L) (hL : L.Pairwise LtP) (hn : L.length ≤ 1000000000) :
    Calls Tryz.prog 22 #[v, Pt p.x p.y] w (WithPost w0 base v L p w) := by
  obtain ⟨A, c, rfl, hc, hr⟩ := hO.rd (by omega) ptL_len
  obtain ⟨n, hnn⟩ : ∃ n, n = L.length := ⟨_, rfl⟩
  rw [← hnn] at hc hn hO ⊢
  have HN := Lib.hid hnn; have HO := Lib.hid hO; have HR := Lib.hid hr; have HL := Lib.hid hL
  have HP := Lib.hid (fun w b hb t => pt_new w b hb p.x p.y t)
  have hLe := Lib.hid (fun q w => rf_lesserB q p w)
  unfold Pt at hLe ⊢
  clear hnn hO hr hL
  go_enter Tryz.func22, Tryz.ntmps22
  go_upto_block 0 with fail
  refine wp_named fun wa hwa => ?_
  have hPa : PtAt wa w.heap.size p.x p.y := by subst hwa; exact HP.out w _ rfl _
  have hTa : Since w wa := by subst hwa; (repeat (first | with_reducible (exact Since.refl _) | with_reducible assumption | with_reducible (refine Since.drew ?_) | with_reducible (refine Since.drewN ?_ _) | with_reducible (refine Since.alloc ?_ _) | (with_reducible (refine Since.setCell ?_ ?_ _); rotate_left; focus (first | (simp; done) | (simp; omega) | omega)) | (with_reducible (refine Since.trans ?_ (by with_reducible assumption)))))
  clear hwa HP
  go_cut [5] (fun y wx => ∃ k : Nat, y = .int .i64 (k : Int) ∧ Hid (PosOf L p k) ∧ Since wa wx)
  case first =>
    go_wp2_with fail
    go_loopw [5] (fun y wr => ∃ k : Nat, k ≤ n ∧ y = .int .i64 (k : Int) ∧ Hid (∀ (j : Nat) (q : Pq), j < k → L[j]? = some q → LtP q p) ∧ Since wa wr) (fun y _ => n - (intOf y).toNat)
    case atStart => exact ⟨0, by omega, rfl, Lib.hid (fun j q h => absurd h (by omega)), Since.refl _⟩
    case round =>
      obtain ⟨k, hk, rfl, HK, hSk⟩ := hrel
      have hPk := hPa.since hSk
      obtain ⟨p1, p2, p3⟩ := id hPk
      by_cases hkn : k < n
      · have hkn' : (k : Int) < n := by omega
        obtain ⟨b, o, rfl, hb', hcell⟩ := HR.out (by have := HN.out; omega)
        obtain ⟨q, hq⟩ : ∃ q, L[k]? = some q := ⟨_, List.getElem?_eq_getElem (by have := HN.out; omega)⟩
        have hw := hTa.trans hSk
        have c0 := (hw.1 _ _ hb').trans (hcell k q hq 0 (by omega))
        have c1 := (hw.1 _ _ hb').trans (hcell k q hq 1 (by omega))
        simp only [ptL, List.getD_cons_succ, List.getD_cons_zero, Nat.add_zero] at c0 c1
        have hbr : b < wr.heap.size := hw.2.2.1 _ hb'
        have hk0 : (0 : Int) ≤ k := by omega
        have yk : IntKind.i64.wrap ((k : Int) + 1) = (k : Int) + 1 := IntWalk.i64_in _ (by omega)
        have hle := fun w => hLe.out q w
        have HQ := Lib.hid hq
        clear hw hcell hq
        cases hl : ltPb q p
        · rw [hl] at hle
          have HLE := Lib.hid hle
          have HPO := Lib.hid (show PosOf L p k from ⟨by have := HN.out; omega, HK.out, fun q' h => by
            rw [HQ.out] at h
            injection h with h
            subst h
            intro h2
            rw [ltPb_iff.2 h2] at hl
            cases hl⟩)
          clear hle hl
          go_upto_region 2 with fail
          (refine wp_named fun wr2 hwr2 => ?_; go_region_held3 (fun w' => (∀ b o, b < wr2.heap.size → w'.cell? ⟨b, o, none⟩ = wr2.cell? ⟨b, o, none⟩) ∧ (∀ b o, b < wr2.heap.size → w'.frozen? ⟨b, o, none⟩ = wr2.frozen? ⟨b, o, none⟩) ∧ (∀ k, k < wr2.heap.size → k < w'.heap.size) ∧ Below wr2.heap.size wr2 w') ((subst hwr2; (repeat (with_reducible (refine since_put ?_ ?_ _); rotate_left; focus (first | (simp; done) | (simp; omega) | omega))); first | with_reducible assumption | (refine since_step (by with_reducible assumption) ?_; first | with_reducible assumption | ((repeat (first | with_reducible (exact Since.refl _) | with_reducible assumption | with_reducible (refine Since.drew ?_) | with_reducible (refine Since.drewN ?_ _) | with_reducible (refine Since.alloc ?_ _) | (with_reducible (refine Since.setCell ?_ ?_ _); rotate_left; focus (first | (simp; done) | (simp; omega) | omega)))); done)) | (refine since_step (Since.refl _) ?_; first | with_reducible assumption | ((repeat (first | with_reducible (exact Since.refl _) | with_reducible assumption | with_reducible (refine Since.drew ?_) | with_reducible (refine Since.drewN ?_ _) | with_reducible (refine Since.alloc ?_ _) | (with_reducible (refine Since.setCell ?_ ?_ _); rotate_left; focus (first | (simp; done) | (simp; omega) | omega)) | (with_reducible (refine Since.trans ?_ (by with_reducible assumption))))); done)))) (first | (go_at_call 42; (with_reducible refine (HLE.out _).mono ?_); rintro e w1 ⟨rfl, hS⟩; have hZ := hS.below.size; (try simp at hZ))); all_goals (rename_i hHeld; have hR2 : Since wr2 _ := hHeld; obtain ⟨hcR2, hfR2, hzR2, hbR2⟩ := hHeld; subst hwr2))
          all_goals go_wp2_with fail
          all_goals go_meet
          all_goals exact ⟨k, rfl, HPO, by (repeat (first | with_reducible (exact Since.refl _) | with_reducible assumption | with_reducible (refine Since.drew ?_) | with_reducible (refine Since.drewN ?_ _) | with_reducible (refine Since.alloc ?_ _) | (with_reducible (refine Since.setCell ?_ ?_ _); rotate_left; focus (first | (simp; done) | (simp; omega) | omega)) | (with_reducible (refine Since.trans ?_ (by with_reducible assumption)))))⟩
        · rw [hl] at hle
          have HLE := Lib.hid hle
          have HK2 := Lib.hid (show ∀ (j : Nat) (q : Pq), j < k + 1 → L[j]? = some q → LtP q p from fun j q' hj h => by
            by_cases e : j = k
            · subst e
              rw [HQ.out] at h
              injection h with h
              subst h
              exact ltPb_iff.1 hl
            · exact HK.out j q' (by omega) h)
          clear hle hl
          go_upto_region 2 with fail
          (refine wp_named fun wr2 hwr2 => ?_; go_region_held3 (fun w' => (∀ b o, b < wr2.heap.size → w'.cell? ⟨b, o, none⟩ = wr2.cell? ⟨b, o, none⟩) ∧ (∀ b o, b < wr2.heap.size → w'.frozen? ⟨b, o, none⟩ = wr2.frozen? ⟨b, o, none⟩) ∧ (∀ k, k < wr2.heap.size → k < w'.heap.size) ∧ Below wr2.heap.size wr2 w') ((subst hwr2; (repeat (with_reducible (refine since_put ?_ ?_ _); rotate_left; focus (first | (simp; done) | (simp; omega) | omega))); first | with_reducible assumption | (refine since_step (by with_reducible assumption) ?_; first | with_reducible assumption | ((repeat (first | with_reducible (exact Since.refl _) | with_reducible assumption | with_reducible (refine Since.drew ?_) | with_reducible (refine Since.drewN ?_ _) | with_reducible (refine Since.alloc ?_ _) | (with_reducible (refine Since.setCell ?_ ?_ _); rotate_left; focus (first | (simp; done) | (simp; omega) | omega)))); done)) | (refine since_step (Since.refl _) ?_; first | with_reducible assumption | ((repeat (first | with_reducible (exact Since.refl _) | with_reducible assumption | with_reducible (refine Since.drew ?_) | with_reducible (refine Since.drewN ?_ _) | with_reducible (refine Since.alloc ?_ _) | (with_reducible (refine Since.setCell ?_ ?_ _); rotate_left; focus (first | (simp; done) | (simp; omega) | omega)) | (with_reducible (refine Since.trans ?_ (by with_reducible assumption))))); done)))) (first | (go_at_call 42; (with_reducible refine (HLE.out _).mono ?_); rintro e w1 ⟨rfl, hS⟩; have hZ := hS.below.size; (try simp at hZ))); all_goals (rename_i hHeld; have hR2 : Since wr2 _ := hHeld; obtain ⟨hcR2, hfR2, hzR2, hbR2⟩ := hHeld; subst hwr2))
          all_goals go_wp2_with fail
          all_goals go_roundw
          case rel => exact ⟨k + 1, by omega, by go_num, HK2, by (repeat (first | with_reducible (exact Since.refl _) | with_reducible assumption | with_reducible (refine Since.drew ?_) | with_reducible (refine Since.drewN ?_ _) | with_reducible (refine Since.alloc ?_ _) | (with_reducible (refine Since.setCell ?_ ?_ _); rotate_left; focus (first | (simp; done) | (simp; omega) | omega)) | (with_reducible (refine Since.trans ?_ (by with_reducible assumption)))))⟩
          case measure => simp only [intOf]; omega
      · obtain rfl : k = n := by omega
        have hkn' : ¬ (k : Int) < k := by omega
        have hkd : decide ((k : Int) < (k : Int)) = false := by simp
        have HPO := Lib.hid (show PosOf L p k from ⟨by rw [HN.out]; exact Nat.le_refl _, HK.out, fun q' h => by
          rw [List.getElem?_eq_none (by rw [← HN.out]; exact Nat.le_refl _)] at h
          cases h⟩)
        go_upto_region 2 with fail
        go_region
        all_goals go_wp2_with fail
        all_goals go_meet
        all_goals exact ⟨k, rfl, HPO, by (repeat (first | with_reducible (exact Since.refl _) | with_reducible assumption | with_reducible (refine Since.drew ?_) | with_reducible (refine Since.drewN ?_ _) | with_reducible (refine Since.alloc ?_ _) | (with_reducible (refine Since.setCell ?_ ?_ _); rotate_left; focus (first | (simp; done) | (simp; omega) | omega)) | (with_reducible (refine Since.trans ?_ (by with_reducible assumption)))))⟩
  obtain ⟨k, rfl, HPO, hSc⟩ := hcut
  have hPc := hPa.since hSc
  have hTc := hTa.trans hSc
  clear hPa hTa hSc
  have hkn := HPO.out.1
  rw [← HN.out] at hkn
  obtain ⟨p1, p2, p3⟩ := id hPc
  by_cases hp : L[k]? = some p
  · have hlt : k < n := by
      rw [HN.out]
      exact (List.getElem?_eq_some_iff.1 hp).1
    have hlt' : (k : Int) < n := by omega
    obtain ⟨b, o, rfl, hb', hcell⟩ := HR.out (by have := HN.out; omega)
    have c0 := (hTc.1 _ _ hb').trans (hcell k p hp 0 (by omega))
    have c1 := (hTc.1 _ _ hb').trans (hcell k p hp 1 (by omega))
    simp only [ptL, List.getD_cons_succ, List.getD_cons_zero, Nat.add_zero] at c0 c1
    have hbr : b < wc.heap.size := hTc.2.2.1 _ hb'
    have hk0 : (0 : Int) ≤ k := by omega
    have HQ := Lib.hid hp
    clear hcell hp
    have HPR := Lib.hid (show ∀ w', Since w w' → WithPost w0 base (.slice (some ⟨b, o, none⟩) n c) L p w (.returned (.slice (some ⟨b, o, none⟩) n c)) w' from fun w' hw => ⟨_, L, rfl, HO.out.since hw, HL.out, fun r => ⟨.inl, fun h => by
      rcases h with h | rfl
      · exact h
      · exact List.mem_of_getElem? HQ.out⟩, Nat.le_succ _, (KeepV.refl _ _).since hw, hS.trans hw⟩)
    clear HO HL HPO hLe HQ
    go_upto_region 4 with fail
    (refine wp_named fun wr4 hwr4 => ?_; go_region_held3 (fun w' => (∀ b o, b < wr4.heap.size → w'.cell? ⟨b, o, none⟩ = wr4.cell? ⟨b, o, none⟩) ∧ (∀ b o, b < wr4.heap.size → w'.frozen? ⟨b, o, none⟩ = wr4.frozen? ⟨b, o, none⟩) ∧ (∀ k, k < wr4.heap.size → k < w'.heap.size) ∧ Below wr4.heap.size wr4 w') ((subst hwr4; (repeat (with_reducible (refine since_put ?_ ?_ _); rotate_left; focus (first | (simp; done) | (simp; omega) | omega))); first | with_reducible assumption | (refine since_step (by with_reducible assumption) ?_; first | with_reducible assumption | ((repeat (first | with_reducible (exact Since.refl _) | with_reducible assumption | with_reducible (refine Since.drew ?_) | with_reducible (refine Since.drewN ?_ _) | with_reducible (refine Since.alloc ?_ _) | (with_reducible (refine Since.setCell ?_ ?_ _); rotate_left; focus (first | (simp; done) | (simp; omega) | omega)))); done)) | (refine since_step (Since.refl _) ?_; first | with_reducible assumption | ((repeat (first | with_reducible (exact Since.refl _) | with_reducible assumption | with_reducible (refine Since.drew ?_) | with_reducible (refine Since.drewN ?_ _) | with_reducible (refine Since.alloc ?_ _) | (with_reducible (refine Since.setCell ?_ ?_ _); rotate_left; focus (first | (simp; done) | (simp; omega) | omega)) | (with_reducible (refine Since.trans ?_ (by with_reducible assumption))))); done)))) (fail); all_goals (rename_i hHeld; have hR4 : Since wr4 _ := hHeld; obtain ⟨hcR4, hfR4, hzR4, hbR4⟩ := hHeld; subst hwr4))
    all_goals go_wp2_with fail
    all_goals go_ret
    all_goals exact HPR.out _ (hTc.trans (by (repeat (first | with_reducible (exact Since.refl _) | with_reducible assumption | with_reducible (refine Since.drew ?_) | with_reducible (refine Since.drewN ?_ _) | with_reducible (refine Since.alloc ?_ _) | (with_reducible (refine Since.setCell ?_ ?_ _); rotate_left; focus (first | (simp; done) | (simp; omega) | omega)) | (with_reducible (refine Since.trans ?_ (by with_reducible assumption)))))))
  · have HNP := Lib.hid hp
    clear hp
    go_upto_region 4 with fail
    go_cut [32] (fun v wx => v = .bool false ∧ Since wc wx)
    case first =>
      by_cases hlt : k < n
      · have hlt' : (k : Int) < n := by omega
        obtain ⟨b, o, rfl, hb', hcell⟩ := HR.out (by have := HN.out; omega)
        obtain ⟨q, hq⟩ : ∃ q, L[k]? = some q := ⟨_, List.getElem?_eq_getElem (by have := HN.out; omega)⟩
        have c0 := (hTc.1 _ _ hb').trans (hcell k q hq 0 (by omega))
        have c1 := (hTc.1 _ _ hb').trans (hcell k q hq 1 (by omega))
        simp only [ptL, List.getD_cons_succ, List.getD_cons_zero, Nat.add_zero] at c0 c1
        have hbr : b < wc.heap.size := hTc.2.2.1 _ hb'
        have hk0 : (0 : Int) ≤ k := by omega
        have hqp : ¬ (q.x = p.x ∧ q.y = p.y) := fun h => HNP.out (by
          rw [hq]
          obtain ⟨a, b⟩ := q
          obtain ⟨c, d⟩ := p
          simp only at h
          rw [h.1, h.2])
        clear hcell hq
        by_cases ex : q.x = p.x
        · have e2 : (q.y == p.y) = false := by simp; exact fun h => hqp ⟨ex, h⟩
          rw [ex] at c0
          clear hqp ex
          (refine wp_named fun wr4 hwr4 => ?_; go_region_held3 (fun w' => (∀ b o, b < wr4.heap.size → w'.cell? ⟨b, o, none⟩ = wr4.cell? ⟨b, o, none⟩) ∧ (∀ b o, b < wr4.heap.size → w'.frozen? ⟨b, o, none⟩ = wr4.frozen? ⟨b, o, none⟩) ∧ (∀ k, k < wr4.heap.size → k < w'.heap.size) ∧ Below wr4.heap.size wr4 w') ((subst hwr4; (repeat (with_reducible (refine since_put ?_ ?_ _); rotate_left; focus (first | (simp; done) | (simp; omega) | omega))); first | with_reducible assumption | (refine since_step (by with_reducible assumption) ?_; first | with_reducible assumption | ((repeat (first | with_reducible (exact Since.refl _) | with_reducible assumption | with_reducible (refine Since.drew ?_) | with_reducible (refine Since.drewN ?_ _) | with_reducible (refine Since.alloc ?_ _) | (with_reducible (refine Since.setCell ?_ ?_ _); rotate_left; focus (first | (simp; done) | (simp; omega) | omega)))); done)) | (refine since_step (Since.refl _) ?_; first | with_reducible assumption | ((repeat (first | with_reducible (exact Since.refl _) | with_reducible assumption | with_reducible (refine Since.drew ?_) | with_reducible (refine Since.drewN ?_ _) | with_reducible (refine Since.alloc ?_ _) | (with_reducible (refine Since.setCell ?_ ?_ _); rotate_left; focus (first | (simp; done) | (simp; omega) | omega)) | (with_reducible (refine Since.trans ?_ (by with_reducible assumption))))); done)))) (fail); all_goals (rename_i hHeld; have hR4 : Since wr4 _ := hHeld; obtain ⟨hcR4, hfR4, hzR4, hbR4⟩ := hHeld; subst hwr4))
          all_goals go_wp2_with fail
          all_goals go_meet
          all_goals exact ⟨rfl, by (repeat (first | with_reducible (exact Since.refl _) | with_reducible assumption | with_reducible (refine Since.drew ?_) | with_reducible (refine Since.drewN ?_ _) | with_reducible (refine Since.alloc ?_ _) | (with_reducible (refine Since.setCell ?_ ?_ _); rotate_left; focus (first | (simp; done) | (simp; omega) | omega)) | (with_reducible (refine Since.trans ?_ (by with_reducible assumption)))))⟩
        · have e1 : (q.x == p.x) = false := by simp [ex]
          clear hqp ex
          (refine wp_named fun wr4 hwr4 => ?_; go_region_held3 (fun w' => (∀ b o, b < wr4.heap.size → w'.cell? ⟨b, o, none⟩ = wr4.cell? ⟨b, o, none⟩) ∧ (∀ b o, b < wr4.heap.size → w'.frozen? ⟨b, o, none⟩ = wr4.frozen? ⟨b, o, none⟩) ∧ (∀ k, k < wr4.heap.size → k < w'.heap.size) ∧ Below wr4.heap.size wr4 w') ((subst hwr4; (repeat (with_reducible (refine since_put ?_ ?_ _); rotate_left; focus (first | (simp; done) | (simp; omega) | omega))); first | with_reducible assumption | (refine since_step (by with_reducible assumption) ?_; first | with_reducible assumption | ((repeat (first | with_reducible (exact Since.refl _) | with_reducible assumption | with_reducible (refine Since.drew ?_) | with_reducible (refine Since.drewN ?_ _) | with_reducible (refine Since.alloc ?_ _) | (with_reducible (refine Since.setCell ?_ ?_ _); rotate_left; focus (first | (simp; done) | (simp; omega) | omega)))); done)) | (refine since_step (Since.refl _) ?_; first | with_reducible assumption | ((repeat (first | with_reducible (exact Since.refl _) | with_reducible assumption | with_reducible (refine Since.drew ?_) | with_reducible (refine Since.drewN ?_ _) | with_reducible (refine Since.alloc ?_ _) | (with_reducible (refine Since.setCell ?_ ?_ _); rotate_left; focus (first | (simp; done) | (simp; omega) | omega)) | (with_reducible (refine Since.trans ?_ (by with_reducible assumption))))); done)))) (fail); all_goals (rename_i hHeld; have hR4 : Since wr4 _ := hHeld; obtain ⟨hcR4, hfR4, hzR4, hbR4⟩ := hHeld; subst hwr4))
          all_goals go_wp2_with fail
          all_goals go_meet
          all_goals exact ⟨rfl, by (repeat (first | with_reducible (exact Since.refl _) | with_reducible assumption | with_reducible (refine Since.drew ?_) | with_reducible (refine Since.drewN ?_ _) | with_reducible (refine Since.alloc ?_ _) | (with_reducible (refine Since.setCell ?_ ?_ _); rotate_left; focus (first | (simp; done) | (simp; omega) | omega)) | (with_reducible (refine Since.trans ?_ (by with_reducible assumption)))))⟩
      · obtain rfl : k = n := by omega
        have hlt' : ¬ (k : Int) < k := by omega
        have hkd : decide ((k : Int) < (k : Int)) = false := by simp
        go_region
        all_goals go_wp2_with fail
        all_goals go_meet
        all_goals exact ⟨rfl, by (repeat (first | with_reducible (exact Since.refl _) | with_reducible assumption | with_reducible (refine Since.drew ?_) | with_reducible (refine Since.drewN ?_ _) | with_reducible (refine Since.alloc ?_ _) | (with_reducible (refine Since.setCell ?_ ?_ _); rotate_left; focus (first | (simp; done) | (simp; omega) | omega)) | (with_reducible (refine Since.trans ?_ (by with_reducible assumption)))))⟩
    obtain ⟨rfl, hSd⟩ := hcut
    have hPd := hPc.since hSd
    have hTd := hTc.trans hSd
    have hlt := fun q => (HO.out.lt (g := q))
    have HLT := Lib.hid hlt
    have hOd := Lib.hid (HO.out.since hTd)
    have hnl : L.length ≤ 1000000000 := by rw [← HN.out]; exact hn
    clear hPc hTc hSd p1 p2 p3 hlt
    obtain ⟨p1, p2, p3⟩ := id hPd
    go_upto_region 7 with (at_builtin; refine wpList_append_one rfl _ _ 24 34 rfl 16 Tryz.underlying24 infoPt base _ L rfl (OwnG.alloc hOd.out _) wc.heap.size 1 p rfl (by rw [World.cell?_alloc_new]; rfl) (by rw [World.cell?_alloc_new]; rfl) (by omega) (by unfold maxLen; omega) (by have := hTd.below.size; simp; omega) ?_; intro v7 w7 hO7 hg7 ho7)
    have hKV : KeepV (.slice A n c) w w7 := (((KeepV.refl _ w).since hTd).since ((Since.refl _).alloc (.cells #[.int .i64 p.x, .int .i64 p.y] 34))).grown hg7
    have hS7 : Since w0 w7 := since_grown ((hS.trans hTd).alloc _) hg7 (fun q hq => Nat.le_trans hb (HLT.out q hq).1)
    have hP7 : PtAt w7 w.heap.size p.x p.y := by
      have hne : (Value.slice A n c).ownBlock ≠ some w.heap.size := fun e => Nat.lt_irrefl _ (HLT.out _ e).2
      have a1 := (World.cell?_alloc_lt wc (.cells #[.int .i64 p.x, .int .i64 p.y] 34) ⟨w.heap.size, 0, none⟩ p3).trans p1
      have a2 := (World.cell?_alloc_lt wc (.cells #[.int .i64 p.x, .int .i64 p.y] 34) ⟨w.heap.size, 1, none⟩ p3).trans p2
      have a3 : w.heap.size < (wc.alloc (.cells #[.int .i64 p.x, .int .i64 p.y] 34)).heap.size := by simp; omega
      exact ⟨cell_grown a1 a3 hg7 hne, cell_grown a2 a3 hg7 hne, Nat.lt_of_lt_of_le a3 hg7.size⟩
    obtain ⟨g, cap, rfl, hbg, hcap⟩ : ∃ g cap, v7 = .slice (some ⟨g, 0, none⟩) (L.length + 1) cap ∧ base ≤ g ∧ L.length + 1 ≤ cap := by
      rcases hO7.2 with ⟨_, h0⟩ | ⟨g, cap, cur, e, h1, _, h2, _⟩
      · simp at h0
      · rw [List.length_append] at e h2
        exact ⟨g, cap, e, h1, h2⟩
    have hgw : (Value.slice A n c).ownBlock = some g ∨ w.heap.size ≤ g := by
      rcases ho7 with h | h
      · left
        exact (show (Value.slice A n c).ownBlock = some g from h.symm)
      · right
        have e : g = wc.heap.size + 1 := by
          simp only [Value.ownBlock, Option.some.injEq] at h
          rw [h]; simp
        have := hTd.below.size
        omega
    have hgp : g ≠ w.heap.size := by
      rcases ho7 with h | h
      · intro e
        have h2 : (Value.slice A n c).ownBlock = some g := h.symm
        have := (HLT.out _ h2).2
        omega
      · have e : g = wc.heap.size + 1 := by
          simp only [Value.ownBlock, Option.some.injEq] at h
          rw [h]; simp
        omega
    have hbs : w0.heap.size ≤ g := Nat.le_trans hb hbg
    rw [← sh_start] at hO7
    obtain ⟨m, hm⟩ : ∃ m, m = L.length + 1 := ⟨_, rfl⟩
    rw [← hm] at hO7 hcap ⊢
    have HMM := Lib.hid (show m = n + 1 by rw [hm, HN.out])
    have HO7 := Lib.hid hO7; have HKV := Lib.hid hKV; have HGW := Lib.hid hgw
    have hmn : (m : Int) - 1 = (n : Int) := by have := HMM.out; omega
    have HMN := Lib.hid hmn
    have hm1 : 1 ≤ (m : Int) := by omega
    have hmx : (m : Int) ≤ 1000000001 := by omega
    clear hm hO7 hKV hgw ho7 hg7 hPd hTd hOd HO HR hLe p1 p2 p3 hnl hmn HLT
    have ym : IntKind.i64.wrap ((m : Int) - 1) = (m : Int) - 1 := IntWalk.i64_in _ (by omega)
    go_wp2_with fail
    go_loopw [6] (fun y wk => ∃ (i : Nat) (z : Pq), k ≤ i ∧ i ≤ n ∧ y = .int .i64 (i : Int) ∧ Hid (OwnG 34 2 ptL wk base (.slice (some ⟨g, 0, none⟩) m cap) (shL L i z)) ∧ PtAt wk w.heap.size p.x p.y ∧ Hid (KeepV (.slice A n c) w wk) ∧ Since w0 wk) (fun y _ => (intOf y).toNat)
    case atStart =>
      refine ⟨n, p, hkn, Nat.le_refl _, ?_, ?_, hP7, HKV, hS7⟩
      · exact congrArg (Value.int IntKind.i64) (by first | exact HMN.out | (have := HMN.out; omega))
      · have h := HO7.out
        rw [← HN.out] at h
        exact Lib.hid h
    case round =>
      obtain ⟨i, z, hki, hin, rfl, HOi, hPi, HKi, hSi⟩ := hrel
      have hmi : i < m := by have := HMM.out; omega
      have hln : i ≤ L.length := by rw [← HN.out]; exact hin
      have HLN := Lib.hid hln
      clear hln
      obtain ⟨p1, p2, p3⟩ := id hPi
      by_cases hlt : k < i
      · have hlt' : (k : Int) < (i : Int) := by omega
        have hi0 : (0 : Int) ≤ i := by omega
        have hi1 : (1 : Int) ≤ i := by omega
        have him : (i : Int) < m := by omega
        have him2 : (i : Int) - 1 < m := by omega
        have hi2 : (0 : Int) ≤ (i : Int) - 1 := by omega
        have yi : IntKind.i64.wrap ((i : Int) - 1) = (i : Int) - 1 := IntWalk.i64_in _ (by omega)
        have yt : ((i : Int) - 1).toNat = i - 1 := by omega
        obtain ⟨a, ha⟩ : ∃ a, L[i - 1]? = some a := ⟨_, List.getElem?_eq_getElem (by have := HLN.out; omega)⟩
        obtain ⟨A', c', e', _, hrd⟩ := HOi.out.rd (by omega) ptL_len
        have hl2 : 0 < (shL L i z).length := by rw [sh_len HLN.out]; omega
        obtain ⟨b', o', e2, hbl, hcell⟩ := hrd hl2
        obtain ⟨rfl, rfl⟩ : b' = g ∧ o' = 0 := by
          rw [e2] at e'
          injection e' with e3 _ _
          injection e3 with e3
          injection e3 with e3 e4
          exact ⟨e3.symm, e4.symm⟩
        have c0 := hcell (i - 1) a (sh_get (by omega) HLN.out ha z) 0 (by omega)
        have c1 := hcell (i - 1) a (sh_get (by omega) HLN.out ha z) 1 (by omega)
        obtain ⟨u, hu⟩ : ∃ u, (shL L i z)[i]? = some u := ⟨_, List.getElem?_eq_getElem (by rw [sh_len HLN.out]; have := HLN.out; omega)⟩
        have d0 := hcell i u hu 0 (by omega)
        have d1 := hcell i u hu 1 (by omega)
        simp only [ptL, List.getD_cons_succ, List.getD_cons_zero, Nat.add_zero, Nat.zero_add] at c0 c1 d0 d1
        have hOr := HOi.out
        unfold OwnG at hOr
        rw [sh_len HLN.out, ← HN.out, ← HMM.out] at hOr
        have f0 := World.ownsRow.frozenAt hOr (i * 2)
        have f1 := World.ownsRow.frozenAt hOr (i * 2 + 1)
        have HA := Lib.hid ha
        clear hcell hrd hl2 hu e' ha hOr
        go_wp2_with fail
        have hO2 := OwnP.put HOi.out i a.x a.y (by rw [sh_len HLN.out]; have := HLN.out; omega)
        have e3 : (shL L i z).set i ⟨a.x, a.y⟩ = shL L (i - 1) a := (sh_set HLN.out z a).trans (sh_step (by omega) HLN.out HA.out)
        rw [e3] at hO2
        have hK2 := (HKi.out.set HGW.out (i * 2) (.int .i64 a.x)).set HGW.out (i * 2 + 1) (.int .i64 a.y)
        have hP2 := pt2 hPi hgp (i * 2) (i * 2 + 1) (.int .i64 a.x) (.int .i64 a.y)
        go_roundw
        case rel => exact ⟨i - 1, a, by omega, by omega, by first | go_num | exact congrArg (Value.int IntKind.i64) (by omega), Lib.hid hO2, hP2, Lib.hid hK2, (hSi.setCell hbs _).setCell hbs _⟩
        case measure => simp only [intOf]; omega
      · obtain rfl : i = k := by omega
        have hlt' : ¬ (i : Int) < (i : Int) := by omega
        have hi0 : (0 : Int) ≤ i := by omega
        have him : (i : Int) < m := by omega
        obtain ⟨A', c', e', _, hrd⟩ := HOi.out.rd (by omega) ptL_len
        have hl2 : 0 < (shL L i z).length := by rw [sh_len HLN.out]; omega
        obtain ⟨b', o', e2, hbl, hcell⟩ := hrd hl2
        obtain ⟨rfl, rfl⟩ : b' = g ∧ o' = 0 := by
          rw [e2] at e'
          injection e' with e3 _ _
          injection e3 with e3
          injection e3 with e3 e4
          exact ⟨e3.symm, e4.symm⟩
        obtain ⟨u, hu⟩ : ∃ u, (shL L i z)[i]? = some u := ⟨_, List.getElem?_eq_getElem (by rw [sh_len HLN.out]; have := HLN.out; omega)⟩
        have d0 := hcell i u hu 0 (by omega)
        have d1 := hcell i u hu 1 (by omega)
        simp only [ptL, List.getD_cons_succ, List.getD_cons_zero, Nat.add_zero, Nat.zero_add] at d0 d1
        have hOr := HOi.out
        unfold OwnG at hOr
        rw [sh_len HLN.out, ← HN.out, ← HMM.out] at hOr
        have f0 := World.ownsRow.frozenAt hOr (i * 2)
        have f1 := World.ownsRow.frozenAt hOr (i * 2 + 1)
        clear hcell hrd hl2 hu e' hOr
        go_wp2_with fail
        have hO2 := OwnP.put HOi.out i p.x p.y (by rw [sh_len HLN.out]; have := HLN.out; omega)
        have e3 : (shL L i z).set i ⟨p.x, p.y⟩ = shL L i p := sh_set HLN.out z p
        rw [e3] at hO2
        have hK2 := (HKi.out.set HGW.out (i * 2) (.int .i64 p.x)).set HGW.out (i * 2 + 1) (.int .i64 p.y)
        have hst : (shL L i p).Pairwise LtP := ins_ok HL.out HPO.out.2.1 (fun q hq => by
          rcases ltP_tri q p with h | h | h
          · exact absurd h (HPO.out.2.2 q hq)
          · subst h; exact absurd hq HNP.out
          · exact h)
        go_ret
        exact ⟨_, shL L i p, rfl, hO2, hst, fun q => ins_mem q, by rw [sh_len HLN.out]; exact Nat.le_refl _, hK2, (hSi.setCell hbs _).setCell hbs _⟩
end Go.Proofs.YtckochcocflleaaGreat
