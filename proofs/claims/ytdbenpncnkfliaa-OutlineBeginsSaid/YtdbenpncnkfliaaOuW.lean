/-
  Layer 11: the law OutlineBegins, walked.
-/
import Derived.Test.YtdbenpncnkfliaaOuI
import Derived.Test.YtdbenpncnkfliaaOuU
import Derived.Test.YtdbenpncnkfliaaOuV
namespace Go.Proofs.Ytdbenpncnkfliaa
open Go.RowKit Go.ChangeShapes Go.WideShapes Go.Deep
set_option linter.unusedVariables false

theorem rot_list (n : Nat) (X Y : Nat → Int) (O : Nat → Bool) (k : Nat) (hk : k < n) :
    (ktL n X Y O).drop k ++ (ktL n X Y O).take k = ktL n (fun j => X ((k + j) % n)) (fun j => Y ((k + j) % n)) (fun j => O ((k + j) % n)) := by
  apply List.ext_getElem?
  intro j
  by_cases hj : j < n
  · rw [ktL_get hj, List.getElem?_append, List.length_drop, ktL_len]
    by_cases h : j < n - k
    · rw [if_pos h, List.getElem?_drop, ktL_get (by omega)]
      unfold kAt
      simp only
      rw [Nat.mod_eq_of_lt (by omega : k + j < n)]
    · rw [if_neg h, List.getElem?_take, if_pos (by omega), ktL_get (by omega)]
      have e : (k + j) % n = j - (n - k) := by
        rw [show k + j = (j - (n - k)) + n by omega, Nat.add_mod_right, Nat.mod_eq_of_lt (by omega)]
      unfold kAt
      simp only
      rw [e]
  · rw [List.getElem?_eq_none (by simp [ktL_len]; omega), List.getElem?_eq_none (by rw [ktL_len]; omega)]
set_option maxRecDepth 100000 in
set_option maxHeartbeats 16000000 in
theorem walk_outlinebegins (A : Option Addr) (n c : Nat) (X Y : Nat → Int) (O : Nat → Bool) (N : Int) (w : World) (h : RdK w w.heap.size A n X Y O) (hX : ∀ j, j < n → InP (X j) (Y j)) (hnm : n ≤ c ∧ c ≤ maxLen) (hN : 0 ≤ N ∧ N ≤ 65535) :
    Calls Try.prog 7 #[.slice A n c, .int .u16 N] w fun e w' => e = .returned (.bool true) ∧ Since w w' := by
  have hn64 : (n : Int) ≤ 9223372036854775807 := by have h1 := hnm.1; have h2 := hnm.2; simp only [maxLen] at h2; omega
  by_cases hn0 : n = 0
  · subst hn0
    go_enter Try.func7, Try.ntmps7
    go_wp2_with (go_at_call 14; (with_reducible refine (alive11 _).mono ?_); rintro e w1 ⟨rfl, hS1⟩)
    go_ret
    exact ⟨rfl, by (repeat (first | with_reducible (exact Since.refl _) | with_reducible assumption | with_reducible (refine Since.drew ?_) | with_reducible (refine Since.drewN ?_ _) | with_reducible (refine Since.alloc ?_ _) | (with_reducible (refine Since.setCell ?_ ?_ _); rotate_left; focus (first | (simp; done) | (simp; omega) | omega)) | (with_reducible (refine Since.trans ?_ (by with_reducible assumption)))))⟩
  have e0 : ((n : Int) == 0) = false := by simp; omega
  by_cases hn : n ≤ 300
  · have hd : decide ((300 : Int) < (n : Int)) = false := by simp; omega
    obtain ⟨M, rfl⟩ : ∃ M : Nat, N = (M : Int) := ⟨N.toNat, by omega⟩
    have hnz : (n : Int) ≠ 0 := by omega
    have u1 : IntKind.i64.wrap (M : Int) = (M : Int) := IntWalk.i64_in _ (by omega)
    have u2 : ((M : Int)).tmod (n : Int) = ((M % n : Nat) : Int) := by rw [Int.tmod_eq_emod_of_nonneg (by omega), Int.natCast_emod]
    have hk : M % n < n := Nat.mod_lt _ (by omega)
    have HPM := Lib.hid (segs_begun (X' := fun j => X ((M % n + j) % n)) (Y' := fun j => Y ((M % n + j) % n)) (O' := fun j => O ((M % n + j) % n)) (by omega) hk (fun j _ => rfl) (fun j _ => rfl) (fun j _ => rfl) : (segsL n X Y O).Perm _)
    have HX2 := Lib.hid (fun (j : Nat) (hj : j < n) => hX ((M % n + j) % n) (Nat.mod_lt _ (by omega)))
    have HRL := Lib.hid (rot_list n X Y O (M % n) hk)
    have HX := Lib.hid hX
    clear hX
    generalize M % n = k at *
    have hkI : (k : Int) < n := by omega
    have hkI0 : (0 : Int) ≤ (k : Int) := by omega
    have hkc : (k : Int) ≤ (c : Int) := by omega
    have hlen := ktL_len n X Y O
    go_enter Try.func7, Try.ntmps7
    go_upto_region 6 with (go_at_call 14; (with_reducible refine (alive11 _).mono ?_); rintro e w1 ⟨rfl, hS1⟩; have hR1 := h.on hS1; clear h)
    have hL1 := hR1.list
    obtain ⟨b, o, rfl, hb, hc⟩ := hR1 (by omega)
    have hR1 : RdK w1 w1.heap.size (some ⟨b, o, none⟩) n X Y O := RdK.of_list hL1
    have hkn : (k : Int) ≤ (n : Int) := by omega
    have hck : ¬ c = k := by omega
    have hnc : (n : Int) ≤ (c : Int) := by omega
    clear hc
    go_cut [6] (fun v wx => ∃ A7 c7, v = .slice A7 n c7 ∧ RdK wx wx.heap.size A7 n (fun j => X ((k + j) % n)) (fun j => Y ((k + j) % n)) (fun j => O ((k + j) % n)) ∧ Since w1 wx)
    case first =>
      clear hR1 HPM HX2 HX
      go_region_held3 (fun w' => True) (trivial) ((first
        | (rw [if_pos (by rfl)]; refine oper_append_g (.tmp 22) (.tmp 25) 23 39 (by rfl) (by omega) knL_len knL_one 24 Try.underlying23 infoKn w1.heap.size (.slice (some ⟨_, 0, none⟩) 0 0) [] (by rfl) ?_ _ _ _ _ ((ktL n X Y O).drop k) ?_ (by rfl) ((hL1.on (by (repeat (first | with_reducible (exact Since.refl _) | with_reducible assumption | with_reducible (refine Since.drew ?_) | with_reducible (refine Since.drewN ?_ _) | with_reducible (refine Since.alloc ?_ _) | (with_reducible (refine Since.setCell ?_ ?_ _); rotate_left; focus (first | (simp; done) | (simp; omega) | omega)) | (with_reducible (refine Since.trans ?_ (by with_reducible assumption))))))).drop k) ?_ ?_ ?_ ?_; (focus (first | exact OwnG.empty _ _ _ _ rfl (by first | (simp; done) | (simp; omega)) | exact OwnG.empty _ _ _ _ (by simp) (by first | (simp; done) | (simp; omega)) | (trace_state; sorry))); (focus (rw [List.length_drop, hlen])); (focus (rw [List.length_drop, hlen]; simp; omega)); (focus (rw [List.length_drop, hlen]; simp only [maxLen, List.length_nil]; omega)); (focus (first | (simp; done) | (simp; omega))); intro v7 w7 hO7 hg7 hb7; have hS7 : Since w1 w7 := (since_grown (show Since w1 _ from (by (repeat (first | with_reducible (exact Since.refl _) | with_reducible assumption | with_reducible (refine Since.drew ?_) | with_reducible (refine Since.drewN ?_ _) | with_reducible (refine Since.alloc ?_ _) | (with_reducible (refine Since.setCell ?_ ?_ _); rotate_left; focus (first | (simp; done) | (simp; omega) | omega)) | (with_reducible (refine Since.trans ?_ (by with_reducible assumption))))))) hg7 (fun q hq => (hb7 q hq).1)); obtain ⟨A7, c7, rfl, hc7, hr7⟩ := hO7.rd (by omega) knL_len)
        | (rw [if_pos (by rfl)]; refine oper_append_g (.tmp 26) (.tmp 29) 23 39 (by rfl) (by omega) knL_len knL_one 24 Try.underlying23 infoKn w1.heap.size _ _ (by rfl) (by first | exact hO7 | exact hO7.since (by (repeat (first | with_reducible (exact Since.refl _) | with_reducible assumption | with_reducible (refine Since.drew ?_) | with_reducible (refine Since.drewN ?_ _) | with_reducible (refine Since.alloc ?_ _) | (with_reducible (refine Since.setCell ?_ ?_ _); rotate_left; focus (first | (simp; done) | (simp; omega) | omega)) | (with_reducible (refine Since.trans ?_ (by with_reducible assumption))))))) _ _ _ _ ((ktL n X Y O).take k) ?_ (by rfl) ((hL1.on (by (repeat (first | with_reducible (exact Since.refl _) | with_reducible assumption | with_reducible (refine Since.drew ?_) | with_reducible (refine Since.drewN ?_ _) | with_reducible (refine Since.alloc ?_ _) | (with_reducible (refine Since.setCell ?_ ?_ _); rotate_left; focus (first | (simp; done) | (simp; omega) | omega)) | (with_reducible (refine Since.trans ?_ (by with_reducible assumption))))))).take k) ?_ ?_ ?_ ?_; (focus (rw [List.length_take, hlen]; omega)); (focus (rw [List.nil_append, List.length_drop, List.length_take, hlen]; omega)); (focus (rw [List.nil_append, List.length_drop, List.length_take, hlen]; simp only [maxLen]; omega)); (focus (have := hS7.below.size; (first | omega | (simp; omega)))); intro v8 w8 hO8 hg8 hb8; have hS8 : Since w1 w8 := (since_grown (show Since w1 _ from (by (repeat (first | with_reducible (exact Since.refl _) | with_reducible assumption | with_reducible (refine Since.drew ?_) | with_reducible (refine Since.drewN ?_ _) | with_reducible (refine Since.alloc ?_ _) | (with_reducible (refine Since.setCell ?_ ?_ _); rotate_left; focus (first | (simp; done) | (simp; omega) | omega)) | (with_reducible (refine Since.trans ?_ (by with_reducible assumption))))))) hg8 (fun q hq => (hb8 q hq).1)); obtain ⟨A8, c8, rfl, hc8, hr8⟩ := hO8.rd (by omega) knL_len)))
      all_goals (go_wp2_with fail)
      all_goals go_meet
      all_goals
        have e1 : n - k + min k n = n := by omega
        have e2 : [] ++ (ktL n X Y O).drop k ++ (ktL n X Y O).take k = ktL n (fun j => X ((k + j) % n)) (fun j => Y ((k + j) % n)) (fun j => O ((k + j) % n)) := by rw [List.nil_append]; exact HRL.out
        rw [e1]
        rw [e2] at hr8
        exact ⟨A8, c8, rfl, RdK.of_list hr8, hS8⟩
    obtain ⟨A7, c7, rfl, hR7, hS7⟩ := hcut
    have hR7c := hR1.on hS7
    clear hL1 hR1
    have hl1 := segsL_len n X Y O
    go_wp2_with (first | (go_at_call 15; (with_reducible refine (ou_segs_rd (some ⟨b, o, none⟩) n c X Y O _ hR7c HX.out (by omega)).mono ?_); rintro e w8 ⟨A8, c8, rfl, hR8, hS8⟩; have hR78 := hR7.on hS8; clear hR7c hR7) | (go_at_call 15; (with_reducible refine (ou_segs_rd A7 n c7 _ _ _ _ hR78 HX2.out (by omega)).mono ?_); rintro e w9 ⟨A9, c9, rfl, hR9, hS9⟩; have hR89 := hR8.on hS9; clear hR8) | (go_at_call 27; (with_reducible refine (rf_alike A8 A9 c8 c9 _ _ false _ hR89 hR9 (by rw [fb_map]; exact HPM.out) (by omega)).mono ?_); rintro e w10 ⟨rfl, hS10⟩))
    go_ret
    exact ⟨rfl, by (repeat (first | with_reducible (exact Since.refl _) | with_reducible assumption | with_reducible (refine Since.drew ?_) | with_reducible (refine Since.drewN ?_ _) | with_reducible (refine Since.alloc ?_ _) | (with_reducible (refine Since.setCell ?_ ?_ _); rotate_left; focus (first | (simp; done) | (simp; omega) | omega)) | (with_reducible (refine Since.trans ?_ (by with_reducible assumption)))))⟩
  · have hd : decide ((300 : Int) < (n : Int)) = true := by simp; omega
    have hd2 : (300 : Int) < (n : Int) := by omega
    go_enter Try.func7, Try.ntmps7
    go_wp2_with (go_at_call 14; (with_reducible refine (alive11 _).mono ?_); rintro e w1 ⟨rfl, hS1⟩)
    go_ret
    exact ⟨rfl, by (repeat (first | with_reducible (exact Since.refl _) | with_reducible assumption | with_reducible (refine Since.drew ?_) | with_reducible (refine Since.drewN ?_ _) | with_reducible (refine Since.alloc ?_ _) | (with_reducible (refine Since.setCell ?_ ?_ _); rotate_left; focus (first | (simp; done) | (simp; omega) | omega)) | (with_reducible (refine Since.trans ?_ (by with_reducible assumption)))))⟩
end Go.Proofs.Ytdbenpncnkfliaa
