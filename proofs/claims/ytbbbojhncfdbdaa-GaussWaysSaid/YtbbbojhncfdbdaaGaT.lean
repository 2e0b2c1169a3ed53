/-
  Layer 10: the law GaussWays, walked.
-/
import Derived.Test.YtbbbojhncfdbdaaGaU
namespace Go.Proofs.Ytbbbojhncfdbdaa
open Go.RowKit Go.ChangeShapes Go.WideShapes Go.Deep
set_option linter.unusedVariables false

/-- A block holds two short numbers. -/
def ShAt (w : World) (b : Nat) (x y : Int) : Prop := w.cell? ⟨b, 0, none⟩ = some (.int .i32 x) ∧ w.cell? ⟨b, 1, none⟩ = some (.int .i32 y) ∧ b < w.heap.size
theorem ShAt.since {w w' : World} {b : Nat} {x y : Int} (h : ShAt w b x y) (k : Since w w') : ShAt w' b x y := ⟨(k.1 _ _ h.2.2).trans h.1, (k.1 _ _ h.2.2).trans h.2.1, k.2.2.1 _ h.2.2⟩
theorem sh_new (w : World) (b : Nat) (hb : b = w.heap.size) (x y : Int) (t : TypeId) : ShAt (w.alloc (.cells #[.int .i32 x, .int .i32 y] t)) b x y := by
  subst hb
  exact ⟨by rw [World.cell?_alloc_new]; rfl, by rw [World.cell?_alloc_new]; rfl, by simp⟩
theorem alloc_pt0 (w : World) (b : Nat) (hb : b = w.heap.size) (x y : Int) (t : TypeId) : (w.alloc (.cells #[.int .i64 x, .int .i64 y] t)).cell? ⟨b, 0, none⟩ = some (.int .i64 x) := (pt_new w b hb x y t).1
theorem alloc_pt1 (w : World) (b : Nat) (hb : b = w.heap.size) (x y : Int) (t : TypeId) : (w.alloc (.cells #[.int .i64 x, .int .i64 y] t)).cell? ⟨b, 1, none⟩ = some (.int .i64 y) := (pt_new w b hb x y t).2.1

theorem cell_alloc_lt {w : World} {o : Obj} {b p : Nat} (h : b < w.heap.size) : (w.alloc o).cell? ⟨b, p, none⟩ = w.cell? ⟨b, p, none⟩ := World.cell?_alloc_lt w o ⟨b, p, none⟩ h
theorem cell_drew0 (w : World) (p : Addr) : w.drew.cell? p = w.cell? p := rfl
theorem apart_nil (u : Value) : Apart (.slice none 0 0) u := fun k hk => by cases hk
set_option maxRecDepth 1000000 in
set_option maxHeartbeats 16000000 in
theorem ways_few (A : Option Addr) (n c : Nat) (bx bz at_ : Int) (w : World) (hn : n ≤ maxLen) (hs : n < 3 ∨ 1000 < n) :
    Calls Try.prog 8 #[.slice A n c, .agg #[.int .i32 bx, .int .i32 bz], .int .u8 at_] w fun e w' => e = .returned (.bool true) ∧ Since w w' := by
  have hn' : (n : Int) ≤ 9223372036854775807 := by simp only [maxLen] at hn; omega
  rcases Nat.lt_or_ge n 3 with h3 | h3
  · have d1 : decide ((n : Int) < 3) = true := by simp; omega
    clear hs hn
    go_enter Try.func8, Try.ntmps8
    go_wp2_with (first | (go_at_call 15; (with_reducible refine (alive10 _).mono ?_); rintro e w1 ⟨rfl, hS1⟩; have hT1 : Since w w1 := (by (repeat (first | with_reducible (exact Since.refl _) | with_reducible assumption | with_reducible (refine Since.drew ?_) | with_reducible (refine Since.drewN ?_ _) | with_reducible (refine Since.alloc ?_ _) | (with_reducible (refine Since.setCell ?_ ?_ _); rotate_left; focus (first | (simp; done) | (simp; omega) | omega)) | (with_reducible (refine Since.trans ?_ (by with_reducible assumption))))))))
    go_ret
    exact ⟨by first | rfl | simp, hT1⟩
  · have d1 : decide ((n : Int) < 3) = false := by simp; omega
    have d2 : decide ((1000 : Int) < n) = true := by simp; omega
    clear hs hn
    go_enter Try.func8, Try.ntmps8
    go_wp2_with (first | (go_at_call 15; (with_reducible refine (alive10 _).mono ?_); rintro e w1 ⟨rfl, hS1⟩; have hT1 : Since w w1 := (by (repeat (first | with_reducible (exact Since.refl _) | with_reducible assumption | with_reducible (refine Since.drew ?_) | with_reducible (refine Since.drewN ?_ _) | with_reducible (refine Since.alloc ?_ _) | (with_reducible (refine Since.setCell ?_ ?_ _); rotate_left; focus (first | (simp; done) | (simp; omega) | omega)) | (with_reducible (refine Since.trans ?_ (by with_reducible assumption))))))))
    go_ret
    exact ⟨by first | rfl | simp, hT1⟩

set_option maxRecDepth 1000000 in
set_option maxHeartbeats 16000000 in
theorem ways_many (A : Option Addr) (n c : Nat) (X Y : Nat → Int) (bx bz at_ : Int) (w : World) (h : RdK .i32 w w.heap.size A n X Y) (hX : ∀ j, j < n → In32 (X j) ∧ In32 (Y j)) (hIx : In32 bx) (hIz : In32 bz) (ha0 : 0 ≤ at_) (ha1 : at_ ≤ 255) (h3 : 3 ≤ n) (h1000 : n ≤ 1000) :
    Calls Try.prog 8 #[.slice A n c, .agg #[.int .i32 bx, .int .i32 bz], .int .u8 at_] w fun e w' => e = .returned (.bool true) ∧ Since w w' := by
  obtain ⟨i0, hi0, hz0, hz1, hz2⟩ := info_parts Try.info_pt
  have d1 : decide ((n : Int) < 3) = false := by simp; omega
  have d2 : decide ((1000 : Int) < n) = false := by simp; omega
  obtain ⟨K, hK⟩ : ∃ K : Nat, at_ % (n : Int) = K := ⟨(at_ % (n : Int)).toNat, by have := Int.emod_nonneg at_ (show (n : Int) ≠ 0 by omega); omega⟩
  have hKn : K < n := by have := Int.emod_lt_of_pos at_ (show (0 : Int) < n by omega); omega
  have e1 : at_.tmod (n : Int) = K := by rw [Int.tmod_eq_emod_of_nonneg ha0]; exact hK
  have e2 : IntKind.i64.wrap at_ = at_ := IntWalk.i64_in _ (by omega)
  have e3 : ¬ (n : Int) = 0 := by omega
  obtain ⟨b, o, rfl, hb, hc⟩ := h (by omega)
  have HS := Lib.hid (fun x y h1 h2 w => law_small x y h1 h2 w)
  have HM := Lib.hid (fun x y u v h1 h2 h3 h4 w => rf_more x y u v h1 h2 h3 h4 w)
  have HC := Lib.hid hc
  have HX := Lib.hid hX
  have hN := fun w b hb t => sh_new w b hb bx bz t
  have HN := Lib.hid hN
  clear hc hX h hN hK
  go_enter Try.func8, Try.ntmps8
  go_wp2_with (first | (go_at_call 15; (with_reducible refine (alive10 _).mono ?_); rintro e w1 ⟨rfl, hS1⟩; have hB1 := (HN.out w _ rfl _).since hS1; have hT1 : Since w w1 := (by (repeat (first | with_reducible (exact Since.refl _) | with_reducible assumption | with_reducible (refine Since.drew ?_) | with_reducible (refine Since.drewN ?_ _) | with_reducible (refine Since.alloc ?_ _) | (with_reducible (refine Since.setCell ?_ ?_ _); rotate_left; focus (first | (simp; done) | (simp; omega) | omega)) | (with_reducible (refine Since.trans ?_ (by with_reducible assumption)))))); clear hS1))
  go_loopw [8, 9, 10, 39] (fun p q r y wr => ∃ j : Nat, j ≤ n ∧ y = .int .i64 (j : Int) ∧ Since w1 wr ∧ Hid (Three wr w1.heap.size p q r j j j (fun j => sm (X j)) (fun j => sm (Y j)) (fun j => sm (X ((j + K) % n)) + sm bx) (fun j => sm (Y ((j + K) % n)) + sm bz) (fun j => sm (X (n - 1 - j))) (fun j => sm (Y (n - 1 - j))))) (fun _ _ _ y _ => n - (intOf y).toNat)
  case atStart => exact ⟨0, by omega, rfl, Since.refl _, Lib.hid ⟨World.ownsRow_nil _ _ _ _, World.ownsRow_nil _ _ _ _, World.ownsRow_nil _ _ _ _, apart_nil _, apart_nil _, apart_nil _⟩⟩
  case round =>
    obtain ⟨j, hj, rfl, hT, H3⟩ := hrel
    have hbl : b < w1.heap.size := hT1.2.2.1 _ hb
    by_cases hjn : j < n
    · have hjn' : (j : Int) < n := by omega
      have hj0 : (0 : Int) ≤ j := by omega
      obtain ⟨M, hM⟩ : ∃ M : Nat, M = (j + K) % n := ⟨_, rfl⟩
      have hMn : M < n := by rw [hM]; exact Nat.mod_lt _ (by omega)
      have hMn' : (M : Int) < n := by omega
      have hM0 : (0 : Int) ≤ M := by omega
      obtain ⟨L, hL⟩ : ∃ L : Nat, L = n - 1 - j := ⟨_, rfl⟩
      have hLn : L < n := by omega
      have hLn' : (L : Int) < n := by omega
      have hL0 : (0 : Int) ≤ L := by omega
      obtain ⟨jk, hjk⟩ : ∃ z : Int, z = (j : Int) + K := ⟨_, rfl⟩
      have m1 : IntKind.i64.wrap ((j : Int) + K) = jk := by rw [hjk]; exact IntWalk.i64_in _ (by omega)
      have m2 : jk.tmod (n : Int) = (M : Int) := by rw [hjk, Int.tmod_eq_emod_of_nonneg (by omega), hM, ← Int.natCast_add, ← Int.natCast_emod]
      have m3 : jk % (n : Int) = (M : Int) := by rw [hjk, hM, ← Int.natCast_add, ← Int.natCast_emod]
      have m4 : ((j : Int) + K) % (n : Int) = (M : Int) := by rw [hM, ← Int.natCast_add, ← Int.natCast_emod]
      have m5 : ((j : Int) + K).tmod (n : Int) = (M : Int) := by rw [Int.tmod_eq_emod_of_nonneg (by omega)]; exact m4
      have m6 : 0 ≤ jk := by omega
      have e4 : ¬ n = 0 := by omega
      have e5 : n ≠ 0 := e4
      have e6 : (n : Int) ≠ 0 := e3
      obtain ⟨nl, hnl⟩ : ∃ z : Int, z = (n : Int) - 1 := ⟨_, rfl⟩
      have l1 : IntKind.i64.wrap ((n : Int) - 1) = nl := by rw [hnl]; exact IntWalk.i64_in _ (by omega)
      have l2 : IntKind.i64.wrap (nl - j) = (L : Int) := by rw [hnl, IntWalk.i64_in _ (by omega)]; omega
      have HMM := Lib.hid hM
      have HLL := Lib.hid hL
      clear hjk hnl hM hL
      have bc1 := (hT1.1 _ _ hb).trans (HC.out j hjn).1
      have bc2 := (hT1.1 _ _ hb).trans (HC.out j hjn).2
      have bc3 := (hT1.1 _ _ hb).trans (HC.out M hMn).1
      have bc4 := (hT1.1 _ _ hb).trans (HC.out M hMn).2
      have bc5 := (hT1.1 _ _ hb).trans (HC.out L hLn).1
      have bc6 := (hT1.1 _ _ hb).trans (HC.out L hLn).2
      obtain ⟨bd1, bd2, hbz⟩ := hB1
      have c1 := (hT.1 _ _ hbl).trans bc1
      have c2 := (hT.1 _ _ hbl).trans bc2
      have S1 := Lib.hid (fun w => HS.out _ _ (HX.out j hjn).1 (HX.out j hjn).2 w)
      have S2 := Lib.hid (fun w => HS.out _ _ (HX.out M hMn).1 (HX.out M hMn).2 w)
      have S3 := Lib.hid (fun w => HS.out bx bz hIx hIz w)
      have S4 := Lib.hid (fun w => HS.out _ _ (HX.out L hLn).1 (HX.out L hLn).2 w)
      have sn : ∀ x, In32 x → Near (sm x) := fun x hx => by have := sm_range hx; unfold Near; omega
      have HM0 := Lib.hid (fun w => HM.out _ _ _ _ (sn _ (HX.out M hMn).1) (sn _ (HX.out M hMn).2) (sn _ hIx) (sn _ hIz) w)
      unfold Pt at S1 S2 S3 S4 HM0
      clear HS HM HC HX sn
      go_wp2_with fail
      go_region_held3 (fun w' => w'.cell? ⟨b, o + j * 2, none⟩ = some (.int .i32 (X j)) ∧ w'.cell? ⟨b, o + j * 2 + 1, none⟩ = some (.int .i32 (Y j))) ((refine ⟨?_, ?_⟩ <;> (first | with_reducible assumption | (rw [cell_alloc_lt] <;> with_reducible assumption) | (rw [cell_drew0]; with_reducible assumption)))) ((first | (go_at_call 31; (with_reducible refine (S1.out _).mono ?_); rintro e wk ⟨rfl, hSk⟩; have hTk : Since w1 wk := (by (repeat (first | with_reducible (exact Since.refl _) | with_reducible assumption | with_reducible (refine Since.drew ?_) | with_reducible (refine Since.drewN ?_ _) | with_reducible (refine Since.alloc ?_ _) | (with_reducible (refine Since.setCell ?_ ?_ _); rotate_left; focus (first | (simp; done) | (simp; omega) | omega)) | (with_reducible (refine Since.trans ?_ (by with_reducible assumption)))))); have hbk := hTk.2.2.1 _ hbl; have hbw := hTk.2.2.1 _ hbz; have h3k := Lib.hid (Three.since (by first | exact H3.out | exact H3.out.drew) hSk); have kc1 := (hTk.1 _ _ hbl).trans bc1; have kc2 := (hTk.1 _ _ hbl).trans bc2; clear hSk hT H3 c1 c2; have hT := hTk; have H3 := h3k; clear hTk h3k; have c1 := kc1; clear kc1; have c2 := kc2; clear kc2) | (rw [if_pos (by rfl)]; refine oper_append_three _ _ _ _ (by rfl) w1.heap.size i0 _ Try.underlying39 hi0 hz0 hz1 hz2 (by rfl) u8 j _ _ (by rfl) (H3.out.alloc _).1 _ _ _ _ (by rfl) (alloc_pt0 _ _ rfl _ _ _) (alloc_pt1 _ _ rfl _ _ _) (by omega) (by have := hT.below.size; simp; omega) ?_; intro v' wk hown hgr hblk; have hTk : Since w1 wk := since_grown (hT.alloc _) hgr (fun k hk => ownp_base (H3.out.alloc (.cells #[] 0)).1 hk); have h3k := Lib.hid ((H3.out.alloc _).grow hown hgr hblk); have kc1 := (hTk.1 _ _ hbl).trans bc1; have kc2 := (hTk.1 _ _ hbl).trans bc2; clear hown hgr hblk hT H3 c1 c2; have hT := hTk; have H3 := Lib.hid h3k.out.rot; clear hTk h3k; have c1 := kc1; clear kc1; have c2 := kc2; clear kc2)))
      go_wp2_with fail
      have c3 := (hT.1 _ _ hbl).trans bc3
      have c4 := (hT.1 _ _ hbl).trans bc4
      have d1 := (hT.1 _ _ hbz).trans bd1
      have d2 := (hT.1 _ _ hbz).trans bd2
      go_region_held3 (fun w' => w'.cell? ⟨b, o + M * 2, none⟩ = some (.int .i32 (X M)) ∧ w'.cell? ⟨b, o + M * 2 + 1, none⟩ = some (.int .i32 (Y M)) ∧ w'.cell? ⟨w.heap.size, 0, none⟩ = some (.int .i32 bx) ∧ w'.cell? ⟨w.heap.size, 1, none⟩ = some (.int .i32 bz)) ((refine ⟨?_, ?_, ?_, ?_⟩ <;> (first | with_reducible assumption | (rw [cell_alloc_lt] <;> with_reducible assumption) | (rw [cell_drew0]; with_reducible assumption)))) ((first | (go_at_call 31; (with_reducible refine (S2.out _).mono ?_); rintro e wk ⟨rfl, hSk⟩; have hTk : Since w1 wk := (by (repeat (first | with_reducible (exact Since.refl _) | with_reducible assumption | with_reducible (refine Since.drew ?_) | with_reducible (refine Since.drewN ?_ _) | with_reducible (refine Since.alloc ?_ _) | (with_reducible (refine Since.setCell ?_ ?_ _); rotate_left; focus (first | (simp; done) | (simp; omega) | omega)) | (with_reducible (refine Since.trans ?_ (by with_reducible assumption)))))); have hbk := hTk.2.2.1 _ hbl; have hbw := hTk.2.2.1 _ hbz; have h3k := Lib.hid (Three.since (by first | exact H3.out | exact H3.out.drew) hSk); have kc3 := (hTk.1 _ _ hbl).trans bc3; have kc4 := (hTk.1 _ _ hbl).trans bc4; have kd1 := (hTk.1 _ _ hbz).trans bd1; have kd2 := (hTk.1 _ _ hbz).trans bd2; clear hSk hT H3 c3 c4 d1 d2; have hT := hTk; have H3 := h3k; clear hTk h3k; have c3 := kc3; clear kc3; have c4 := kc4; clear kc4; have d1 := kd1; clear kd1; have d2 := kd2; clear kd2) | (go_at_call 31; (with_reducible refine (S3.out _).mono ?_); rintro e wk ⟨rfl, hSk⟩; have hTk : Since w1 wk := (by (repeat (first | with_reducible (exact Since.refl _) | with_reducible assumption | with_reducible (refine Since.drew ?_) | with_reducible (refine Since.drewN ?_ _) | with_reducible (refine Since.alloc ?_ _) | (with_reducible (refine Since.setCell ?_ ?_ _); rotate_left; focus (first | (simp; done) | (simp; omega) | omega)) | (with_reducible (refine Since.trans ?_ (by with_reducible assumption)))))); have hbk := hTk.2.2.1 _ hbl; have hbw := hTk.2.2.1 _ hbz; have h3k := Lib.hid (Three.since (by first | exact H3.out | exact H3.out.drew) hSk); have kc3 := (hTk.1 _ _ hbl).trans bc3; have kc4 := (hTk.1 _ _ hbl).trans bc4; have kd1 := (hTk.1 _ _ hbz).trans bd1; have kd2 := (hTk.1 _ _ hbz).trans bd2; clear hSk hT H3 c3 c4 d1 d2; have hT := hTk; have H3 := h3k; clear hTk h3k; have c3 := kc3; clear kc3; have c4 := kc4; clear kc4; have d1 := kd1; clear kd1; have d2 := kd2; clear kd2) | (go_at_call 32; (with_reducible refine (HM0.out _).mono ?_); rintro e wk ⟨rfl, hSk⟩; have hTk : Since w1 wk := (by (repeat (first | with_reducible (exact Since.refl _) | with_reducible assumption | with_reducible (refine Since.drew ?_) | with_reducible (refine Since.drewN ?_ _) | with_reducible (refine Since.alloc ?_ _) | (with_reducible (refine Since.setCell ?_ ?_ _); rotate_left; focus (first | (simp; done) | (simp; omega) | omega)) | (with_reducible (refine Since.trans ?_ (by with_reducible assumption)))))); have hbk := hTk.2.2.1 _ hbl; have hbw := hTk.2.2.1 _ hbz; have h3k := Lib.hid (Three.since (by first | exact H3.out | exact H3.out.drew) hSk); have kc3 := (hTk.1 _ _ hbl).trans bc3; have kc4 := (hTk.1 _ _ hbl).trans bc4; have kd1 := (hTk.1 _ _ hbz).trans bd1; have kd2 := (hTk.1 _ _ hbz).trans bd2; clear hSk hT H3 c3 c4 d1 d2; have hT := hTk; have H3 := h3k; clear hTk h3k; have c3 := kc3; clear kc3; have c4 := kc4; clear kc4; have d1 := kd1; clear kd1; have d2 := kd2; clear kd2) | (rw [if_pos (by rfl)]; refine oper_append_three _ _ _ _ (by rfl) w1.heap.size i0 _ Try.underlying39 hi0 hz0 hz1 hz2 (by rfl) u9 j _ _ (by rfl) (H3.out.alloc _).1 _ _ _ _ (by rfl) (alloc_pt0 _ _ rfl _ _ _) (alloc_pt1 _ _ rfl _ _ _) (by omega) (by have := hT.below.size; simp; omega) ?_; intro v' wk hown hgr hblk; have hTk : Since w1 wk := since_grown (hT.alloc _) hgr (fun k hk => ownp_base (H3.out.alloc (.cells #[] 0)).1 hk); have h3k := Lib.hid ((H3.out.alloc _).grow hown hgr hblk); have kc3 := (hTk.1 _ _ hbl).trans bc3; have kc4 := (hTk.1 _ _ hbl).trans bc4; have kd1 := (hTk.1 _ _ hbz).trans bd1; have kd2 := (hTk.1 _ _ hbz).trans bd2; clear hown hgr hblk hT H3 c3 c4 d1 d2; have hT := hTk; have H3 := Lib.hid h3k.out.rot; clear hTk h3k; have c3 := kc3; clear kc3; have c4 := kc4; clear kc4; have d1 := kd1; clear kd1; have d2 := kd2; clear kd2)))
      go_wp2_with fail
      have c5 := (hT.1 _ _ hbl).trans bc5
      have c6 := (hT.1 _ _ hbl).trans bc6
      go_region_held3 (fun w' => w'.cell? ⟨b, o + L * 2, none⟩ = some (.int .i32 (X L)) ∧ w'.cell? ⟨b, o + L * 2 + 1, none⟩ = some (.int .i32 (Y L))) ((refine ⟨?_, ?_⟩ <;> (first | with_reducible assumption | (rw [cell_alloc_lt] <;> with_reducible assumption) | (rw [cell_drew0]; with_reducible assumption)))) ((first | (go_at_call 31; (with_reducible refine (S4.out _).mono ?_); rintro e wk ⟨rfl, hSk⟩; have hTk : Since w1 wk := (by (repeat (first | with_reducible (exact Since.refl _) | with_reducible assumption | with_reducible (refine Since.drew ?_) | with_reducible (refine Since.drewN ?_ _) | with_reducible (refine Since.alloc ?_ _) | (with_reducible (refine Since.setCell ?_ ?_ _); rotate_left; focus (first | (simp; done) | (simp; omega) | omega)) | (with_reducible (refine Since.trans ?_ (by with_reducible assumption)))))); have hbk := hTk.2.2.1 _ hbl; have hbw := hTk.2.2.1 _ hbz; have h3k := Lib.hid (Three.since (by first | exact H3.out | exact H3.out.drew) hSk); have kc5 := (hTk.1 _ _ hbl).trans bc5; have kc6 := (hTk.1 _ _ hbl).trans bc6; clear hSk hT H3 c5 c6; have hT := hTk; have H3 := h3k; clear hTk h3k; have c5 := kc5; clear kc5; have c6 := kc6; clear kc6) | (rw [if_pos (by rfl)]; refine oper_append_three _ _ _ _ (by rfl) w1.heap.size i0 _ Try.underlying39 hi0 hz0 hz1 hz2 (by rfl) u10 j _ _ (by rfl) (H3.out.alloc _).1 _ _ _ _ (by rfl) (alloc_pt0 _ _ rfl _ _ _) (alloc_pt1 _ _ rfl _ _ _) (by omega) (by have := hT.below.size; simp; omega) ?_; intro v' wk hown hgr hblk; have hTk : Since w1 wk := since_grown (hT.alloc _) hgr (fun k hk => ownp_base (H3.out.alloc (.cells #[] 0)).1 hk); have h3k := Lib.hid ((H3.out.alloc _).grow hown hgr hblk); have kc5 := (hTk.1 _ _ hbl).trans bc5; have kc6 := (hTk.1 _ _ hbl).trans bc6; clear hown hgr hblk hT H3 c5 c6; have hT := hTk; have H3 := Lib.hid h3k.out.rot; clear hTk h3k; have c5 := kc5; clear kc5; have c6 := kc6; clear kc6)))
      go_wp2_with fail
      have H4 := H3.out
      clear H3
      have hM := HMM.out
      have hL := HLL.out
      subst hM hL
      refine ⟨⟨j + 1, by omega, by simp, hT, Lib.hid (H4.congr (join_same _ j) (join_same _ j) (join_same _ j) (join_same _ j) (join_same _ j) (join_same _ j))⟩, by simp [intOf]; omega⟩
    · have ejn : j = n := by omega
      subst ejn
      have H4 := H3.out
      clear H3
      obtain ⟨Ap, cp, rfl, hcp, hrp, hbp⟩ := own_pts H4.1
      obtain ⟨Aq, cq, rfl, hcq, hrq, hbq⟩ := own_pts H4.2.1
      obtain ⟨Ar, cr, rfl, hcr, hrr, hbr⟩ := own_pts H4.2.2.1
      have hrp0 := hrp
      obtain ⟨g, og, rfl, hgl, hgc⟩ := hrp0 (by omega)
      obtain ⟨z1, z2, z3⟩ := ways_areas X Y j K bx bz hKn
      have hX := HX.out
      have gP : ∀ i, i < j → goodB (sm (X i)) (sm (Y i)) = true := fun i hi => good_sm (hX i hi).1 (hX i hi).2
      have gQ : ∀ i, i < j → goodB (sm (X ((i + K) % j)) + sm bx) (sm (Y ((i + K) % j)) + sm bz) = true := fun i hi => good_sm2 (hX _ (Nat.mod_lt _ (by omega))).1 (hX _ (Nat.mod_lt _ (by omega))).2 hIx hIz
      have gR : ∀ i, i < j → goodB (sm (X (j - 1 - i))) (sm (Y (j - 1 - i))) = true := fun i hi => good_sm (hX _ (by omega)).1 (hX _ (by omega)).2
      have gJ := good_join hX hKn
      have C1 := fun w h => area_good (some ⟨g, og, none⟩) j cp _ _ gP (by omega) w h
      have C2 := fun w h => area_good Aq j cq _ _ gQ (by omega) w h
      have C3 := fun w h => area_good Ar j cr _ _ gR (by omega) w h
      have C4 := fun w h => area_good (some ⟨g, og, none⟩) (K + 1) cp _ _ (fun i hi => gP i (by omega)) (by omega) w h
      have C5 := fun A c w h => area_good A (j - K + 1) c _ _ gJ (by omega) w h
      have y1 := area_in gP (by omega)
      have y2 := area_in (X := fun i => sm (X i)) (Y := fun i => sm (Y i)) (n := K + 1) (fun i hi => gP i (by omega)) (by omega)
      have y3 := area_in gJ (by omega)
      rw [z1] at C2
      rw [z2] at C3
      have hJX : ∀ f : Nat → Int, joinP (j - K) (fun i => f (K + i)) (fun _ => f 0) = joinP (j - K) (fun i => f (K + i)) (fun _ => f 0) := fun _ => rfl
      generalize hone : areaTo (fun i => sm (X i)) (fun i => sm (Y i)) (K + 1) (K + 1) = one at *
      generalize htwo : areaTo (joinP (j - K) (fun i => sm (X (K + i))) (fun _ => sm (X 0))) (joinP (j - K) (fun i => sm (Y (K + i))) (fun _ => sm (Y 0))) (j - K + 1) (j - K + 1) = two at *
      generalize areaTo (fun i => sm (X i)) (fun i => sm (Y i)) j j = T at *
      have y4 : IntKind.i64.wrap (one + two) = T := by rw [z3]; exact y1
      have hR1 := Lib.hid hrp
      have hR2 := Lib.hid hrq
      have hR3 := Lib.hid hrr
      have k1 : IntKind.i64.wrap ((K : Int) + 1) = (K : Int) + 1 := IntWalk.i64_in _ (by omega)
      have k2 : (K : Int) + 1 ≤ cp := by omega
      have k3 : (0 : Int) ≤ (K : Int) + 1 := by omega
      have D1 := Lib.hid C1
      have D2 := Lib.hid C2
      have D3 := Lib.hid C3
      have D4 := Lib.hid C4
      have D5 := Lib.hid C5
      have HB := Lib.hid (And.intro hbp (And.intro hbq hbr))
      have Z := Lib.hid (And.intro z3 (And.intro hone htwo))
      have HH := Lib.hid H4
      clear HS HM HC gP gQ gR gJ z1 z2 z3 hone htwo C1 C2 C3 C4 C5 hrp hrq hrr hgc hbp hbq hbr hJX hX HX H4 y2 y3
      go_wp2_with (first | (go_at_call 28; (with_reducible refine (D1.out _ hR1.out).mono ?_); rintro e v1 ⟨rfl, hS1⟩; have hT2 := hT.trans hS1; have hQ1 := Lib.hid (hR1.out.on hS1); have hQ2 := Lib.hid (hR2.out.on hS1); have hQ3 := Lib.hid (hR3.out.on hS1); have hH1 := Lib.hid (HH.out.since hS1); clear hR1 hR2 hR3 HH hS1 D1) | (go_at_call 28; (with_reducible refine (D2.out _ hQ2.out).mono ?_); rintro e v2 ⟨rfl, hS1⟩; have hT3 := hT2.trans hS1; have hP1 := Lib.hid (hQ1.out.on hS1); have hP3 := Lib.hid (hQ3.out.on hS1); have hH2 := Lib.hid (hH1.out.since hS1); clear hQ1 hQ2 hQ3 hH1 hS1 D2) | (go_at_call 28; (with_reducible refine (D3.out _ hP3.out).mono ?_); rintro e v3 ⟨rfl, hS1⟩; have hT4 := hT3.trans hS1; have hO1 := Lib.hid (hP1.out.on hS1); have hH3 := Lib.hid (hH2.out.since hS1); clear hP1 hP3 hH2 hS1 D3) | (go_at_call 28; (with_reducible refine (D4.out _ (hO1.out.take (by omega))).mono ?_); rintro e v4 ⟨rfl, hS1⟩; have hT5 := hT4.trans hS1; have hN1 := Lib.hid (hO1.out.on hS1); have hH4 := Lib.hid (hH3.out.since hS1); clear hO1 hH3 hS1 D4))
      obtain ⟨b9, o9, e9, hb9, hc9⟩ := hN1.out (by omega)
      injection e9 with e9
      injection e9 with e91 e92
      subst e91 e92
      have hgv : g < v4.heap.size := hb9
      have hgv2 : g < v4.drew.heap.size := hb9
      have hj1 : (0 : Int) < j := by omega
      have hj2 : 0 < j := by omega
      have c1 := (hc9 0 (by omega)).1
      have c2 := (hc9 0 (by omega)).2
      simp only [Nat.zero_mul, Nat.add_zero] at c1 c2
      clear hc9 hb9
      have q1 := c1
      have q2 := c2
      have kc1 : (K : Int) ≤ j := by omega
      have kc2 : (j : Int) ≤ cp := by omega
      have kc3 : ¬ cp = K := by omega
      go_region_held3 (fun w' => w'.cell? ⟨g, og, none⟩ = some (.int .i64 (sm (X 0))) ∧ w'.cell? ⟨g, og + 1, none⟩ = some (.int .i64 (sm (Y 0)))) ((refine ⟨?_, ?_⟩ <;> (first | with_reducible assumption | ((repeat (first | rw [cell_drew0] | (rw [cell_alloc_lt]; rotate_left; focus (first | with_reducible assumption | (simp; done) | (simp; omega))))); with_reducible assumption)))) ((first | (rw [if_pos (by rfl)]; refine oper_append_pts _ _ _ _ (by rfl) v4.heap.size i0 _ Try.underlying39 hi0 hz0 hz1 hz2 (by rfl) (.slice (some ⟨_, 0, none⟩) 0 0) (by rfl) (by first | exact own_drewp (own_empty _ _ _ (by first | rfl | simp) (by first | (simp; done) | (simp; omega))) | exact own_drewp (ownp_since (own_empty _ _ _ (by first | rfl | simp) (by first | (simp; done) | (simp; omega))) ((Since.refl _).alloc _))) _ _ _ _ _ (by rfl) ((hN1.out.on (by (repeat (first | with_reducible (exact Since.refl _) | with_reducible assumption | with_reducible (refine Since.drew ?_) | with_reducible (refine Since.drewN ?_ _) | with_reducible (refine Since.alloc ?_ _) | (with_reducible (refine Since.setCell ?_ ?_ _); rotate_left; focus (first | (simp; done) | (simp; omega) | omega)) | (with_reducible (refine Since.trans ?_ (by with_reducible assumption))))))).drop K) (by omega) (by first | (simp; done) | (simp; omega)) ?_; intro v5 w5 hown hgr; have hT6 : Since v4 w5 := since_grown (show Since v4 _ from (by (repeat (first | with_reducible (exact Since.refl _) | with_reducible assumption | with_reducible (refine Since.drew ?_) | with_reducible (refine Since.drewN ?_ _) | with_reducible (refine Since.alloc ?_ _) | (with_reducible (refine Since.setCell ?_ ?_ _); rotate_left; focus (first | (simp; done) | (simp; omega) | omega)) | (with_reducible (refine Since.trans ?_ (by with_reducible assumption))))))) hgr (fun k hk => by simp [Value.ownBlock] at hk; first | omega | (subst hk; simp)); have hO := Lib.hid hown; have hgw := hT6.2.2.1 _ hgv; have c1k := (hT6.1 _ _ hgv).trans q1; have c2k := (hT6.1 _ _ hgv).trans q2; (first | (have x0 := (grown_cellp hgr (b := v4.heap.size + 1) (by first | (simp; done) | (simp; omega)) (by simp [Value.ownBlock]) 0).trans ((cell_drew0 _ _).trans (alloc_pt0 _ _ (by first | (simp; done) | (simp; omega)) _ _ _)); have x1 := (grown_cellp hgr (b := v4.heap.size + 1) (by first | (simp; done) | (simp; omega)) (by simp [Value.ownBlock]) 1).trans ((cell_drew0 _ _).trans (alloc_pt1 _ _ (by first | (simp; done) | (simp; omega)) _ _ _))) | (have x0 := (grown_cellp hgr (b := v4.heap.size) (by first | (simp; done) | (simp; omega)) (by simp [Value.ownBlock]) 0).trans ((cell_drew0 _ _).trans ((cell_alloc_lt (by first | (simp; done) | (simp; omega))).trans (alloc_pt0 _ _ rfl _ _ _))); have x1 := (grown_cellp hgr (b := v4.heap.size) (by first | (simp; done) | (simp; omega)) (by simp [Value.ownBlock]) 1).trans ((cell_drew0 _ _).trans ((cell_alloc_lt (by first | (simp; done) | (simp; omega))).trans (alloc_pt1 _ _ rfl _ _ _)))) | skip); clear hgr hown c1 c2; have c1 := c1k; have c2 := c2k) | (rw [if_pos (by rfl)]; refine oper_append_three _ _ _ _ (by rfl) v4.heap.size i0 _ Try.underlying39 hi0 hz0 hz1 hz2 (by rfl) _ (j - K) _ _ (by rfl) (by first | exact hO.out | exact ownp_since hO.out ((Since.refl _).alloc _)) _ _ _ _ (by rfl) (by first | exact alloc_pt0 _ _ rfl _ _ _ | exact x0) (by first | exact alloc_pt1 _ _ rfl _ _ _ | exact x1) (by omega) (by have := hT6.below.size; first | omega | (simp; omega)) ?_; intro v6 w6 hown hgr hblk; have hT7 : Since v4 w6 := since_grown (show Since v4 _ from (by (repeat (first | with_reducible (exact Since.refl _) | with_reducible assumption | with_reducible (refine Since.drew ?_) | with_reducible (refine Since.drewN ?_ _) | with_reducible (refine Since.alloc ?_ _) | (with_reducible (refine Since.setCell ?_ ?_ _); rotate_left; focus (first | (simp; done) | (simp; omega) | omega)) | (with_reducible (refine Since.trans ?_ (by with_reducible assumption))))))) hgr (fun k hk => ownp_base hO.out hk); obtain ⟨A2, c2a, rfl, hc2a, hr2, _⟩ := own_pts hown; have hJ := Lib.hid hr2; have c1k := (hT7.1 _ _ hgv).trans q1; have c2k := (hT7.1 _ _ hgv).trans q2; clear hgr hown hblk c1 c2; have c1 := c1k; have c2 := c2k) | (go_at_call 28; (with_reducible refine (D5.out _ _ _ hJ.out).mono ?_); rintro e v7 ⟨rfl, hS7⟩; have hT8 : Since v4 v7 := (by (repeat (first | with_reducible (exact Since.refl _) | with_reducible assumption | with_reducible (refine Since.drew ?_) | with_reducible (refine Since.drewN ?_ _) | with_reducible (refine Since.alloc ?_ _) | (with_reducible (refine Since.setCell ?_ ?_ _); rotate_left; focus (first | (simp; done) | (simp; omega) | omega)) | (with_reducible (refine Since.trans ?_ (by with_reducible assumption)))))); have c1k := (hT8.1 _ _ hgv).trans q1; have c2k := (hT8.1 _ _ hgv).trans q2; clear c1 c2; have c1 := c1k; have c2 := c2k)))
      all_goals go_wp2
      all_goals go_ret
      all_goals exact ⟨by first | rfl | simp, by (repeat (first | with_reducible (exact Since.refl _) | with_reducible assumption | with_reducible (refine Since.drew ?_) | with_reducible (refine Since.drewN ?_ _) | with_reducible (refine Since.alloc ?_ _) | (with_reducible (refine Since.setCell ?_ ?_ _); rotate_left; focus (first | (simp; done) | (simp; omega) | omega)) | (with_reducible (refine Since.trans ?_ (by with_reducible assumption)))))⟩
theorem walk_ways (A : Option Addr) (n c : Nat) (X Y : Nat → Int) (bx bz at_ : Int) (w : World) (h : RdK .i32 w w.heap.size A n X Y) (hX : ∀ j, j < n → In32 (X j) ∧ In32 (Y j)) (hIx : In32 bx) (hIz : In32 bz) (ha0 : 0 ≤ at_) (ha1 : at_ ≤ 255) (hn : n ≤ maxLen) :
    Calls Try.prog 8 #[.slice A n c, .agg #[.int .i32 bx, .int .i32 bz], .int .u8 at_] w fun e w' => e = .returned (.bool true) ∧ Since w w' := by
  by_cases hs : n < 3 ∨ 1000 < n
  · exact ways_few A n c bx bz at_ w hn hs
  · exact ways_many A n c X Y bx bz at_ w h hX hIx hIz ha0 ha1 (by omega) (by omega)
end Go.Proofs.Ytbbbojhncfdbdaa
