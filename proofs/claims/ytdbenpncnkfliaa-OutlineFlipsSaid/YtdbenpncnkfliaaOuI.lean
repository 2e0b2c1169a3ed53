/-
  Layer 11: contours as lists; the law OutlineSegs, walked.
-/
import Derived.Test.YtdbenpncnkfliaaOuH
import Derived.Test.YtdbenpncnkfliaaOuJ
import Derived.Test.YtdbenpncnkfliaaOuS
import Derived.Test.YtdbenpncnkfliaaKitH
namespace Go.Proofs.Ytdbenpncnkfliaa
open Go.RowKit Go.ChangeShapes Go.WideShapes Go.Deep
set_option linter.unusedVariables false

def ktL (n : Nat) (X Y : Nat → Int) (O : Nat → Bool) : List Kt := (List.range n).map (kAt X Y O)
theorem segsL_len (n : Nat) (X Y : Nat → Int) (O : Nat → Bool) : (segsL n X Y O).length ≤ n := by
  unfold segsL
  split
  · simp
  · exact runS_len _ _ _ _ _ _ _
theorem ktL_len (n : Nat) (X Y : Nat → Int) (O : Nat → Bool) : (ktL n X Y O).length = n := by simp [ktL]
theorem ktL_get {n : Nat} {X Y : Nat → Int} {O : Nat → Bool} {j : Nat} (hj : j < n) : (ktL n X Y O)[j]? = some (kAt X Y O j) := by simp [ktL, hj]
theorem RdK.list {w : World} {B : Nat} {A : Option Addr} {n : Nat} {X Y : Nat → Int} {O : Nat → Bool} (h : RdK w B A n X Y O) : RdKl w B A (ktL n X Y O) := fun hn => by
  rw [ktL_len] at hn
  obtain ⟨b, o, rfl, hb, hc⟩ := h hn
  refine ⟨b, o, rfl, hb, fun j s hj i hi => ?_⟩
  have hjn : j < n := by
    rcases Nat.lt_or_ge j n with h | h
    · exact h
    · rw [List.getElem?_eq_none (by rw [ktL_len]; exact h)] at hj; cases hj
  rw [ktL_get hjn] at hj
  injection hj with hj
  subst hj
  obtain ⟨h1, h2, h3⟩ := hc j hjn
  have hh : i = 0 ∨ i = 1 ∨ i = 2 := by omega
  rcases hh with rfl | rfl | rfl <;> assumption
theorem RdK.of_list {w : World} {B : Nat} {A : Option Addr} {n : Nat} {X Y : Nat → Int} {O : Nat → Bool} (h : RdKl w B A (ktL n X Y O)) : RdK w B A n X Y O := fun hn => by
  obtain ⟨b, o, rfl, hb, hc⟩ := h (by rw [ktL_len]; exact hn)
  exact ⟨b, o, rfl, hb, fun j hj => ⟨hc j _ (ktL_get hj) 0 (by omega), hc j _ (ktL_get hj) 1 (by omega), hc j _ (ktL_get hj) 2 (by omega)⟩⟩
/-- An outline of one contour, just built. -/
def oneD (A : Option Addr) (n c : Nat) (X Y : Nat → Int) (O : Nat → Bool) : OutD := ⟨1, fun _ => A, fun _ => n, fun _ => c, fun _ => X, fun _ => Y, fun _ => O⟩
theorem rdO_one {w : World} {b : Nat} (hb : b = w.heap.size) (t : TypeId) {A : Option Addr} {n c : Nat} {X Y : Nat → Int} {O : Nat → Bool} (h : RdK w w.heap.size A n X Y O) (hn : n ≤ maxLen) :
    RdO (w.alloc (.cells #[.slice A n c] t)) (w.alloc (.cells #[.slice A n c] t)).heap.size (some ⟨b, 0, none⟩) (oneD A n c X Y O) := by
  refine ⟨rd_lit hb (fun j hj => ?_), fun j hj => h.on ((Since.refl w).alloc _), fun j hj => hn⟩
  obtain rfl : j = 0 := by simp only [oneD] at hj; omega
  rfl
theorem likeO_refl (A A' : Option Addr) (n c c' : Nat) (X Y : Nat → Int) (O : Nat → Bool) : LikeO (oneD A n c X Y O) (oneD A' n c' X Y O) := ⟨rfl, fun j hj => ⟨rfl, fun i hi => ⟨rfl, rfl, rfl⟩⟩⟩
set_option maxRecDepth 100000 in
set_option maxHeartbeats 16000000 in
theorem walk_outlinesegs (A : Option Addr) (n c : Nat) (X Y : Nat → Int) (O : Nat → Bool) (w : World) (h : RdK w w.heap.size A n X Y O) (hX : ∀ j, j < n → InP (X j) (Y j)) (hnm : n ≤ maxLen) :
    Calls Try.prog 3 #[.slice A n c] w fun e w' => e = .returned (.bool true) ∧ Since w w' := by
  have hn64 : (n : Int) ≤ 9223372036854775807 := by simp only [maxLen] at hnm; omega
  by_cases hn : n ≤ 5000
  · have hd : decide ((5000 : Int) < (n : Int)) = false := by simp; omega
    have hd2 : ¬ (5000 : Int) < (n : Int) := by omega
    have hlen := ktL_len n X Y O
    have HX := Lib.hid hX
    clear hX
    go_enter Try.func3, Try.ntmps3
    go_wp2_with (first | (go_at_call 14; (with_reducible refine (alive11 _).mono ?_); rintro e w1 ⟨rfl, hS1⟩; have hR1 := h.on hS1; clear h) | (at_builtin; (refine wpList_append_g rfl (.tmp 10) (.tmp 11) 23 39 rfl (by omega) knL_len knL_one 24 Try.underlying23 infoKn w1.heap.size _ [] rfl (OwnG.empty _ w1 w1.heap.size _ rfl (Nat.le_refl _)) _ A c (ktL n X Y O) (by rw [hlen]; rfl) (hR1.on ((Since.refl w1).alloc _)).list ?_ ?_ ?_ ?_; (focus (rw [hlen]; simp; omega)); (focus (rw [hlen]; simp only [maxLen, List.length_nil]; omega)); (focus (simp)); intro v7 w7 hO7 hg7 hb7; have hS7 : Since w1 w7 := (since_grown ((Since.refl w1).alloc _) hg7 (fun q hq => (hb7 q hq).1)); rw [List.nil_append] at hO7; obtain ⟨A7, c7, rfl, hc7, hr7⟩ := hO7.rd (by omega) knL_len; rw [hlen] at hc7; (simp only [hlen]); have hq7 := RdK.of_list hr7; have hR7 := hR1.on hS7; clear hR1 hr7 hO7 hg7 hb7)) | (go_at_call 15; (with_reducible refine (ou_segs_rd A7 n c7 X Y O _ hq7 HX.out (by omega)).mono ?_); rintro e w8 ⟨A8, c8, rfl, hR8, hS8⟩; have hq8 := hq7.on hS8; have hr8 := hR7.on hS8; clear hq7 hR7) | (go_at_call 17; (with_reducible refine (rf_segs_rd A n c X Y O _ hr8 HX.out (by omega)).mono ?_); rintro e w9 ⟨A9, c9, rfl, hR9, hS9⟩; have hq9 := hq8.on hS9; have hr9 := hr8.on hS9; have hR89 := hR8.on hS9; clear hq8 hr8 hR8) | (go_at_call 16; (with_reducible refine (rf_same11 A8 A9 c8 c9 _ _ hR89 hR9 (by have := segsL_len n X Y O; simp only [maxLen]; omega)).mono ?_); rintro e w10 ⟨rfl, hS10⟩; have hqX := hq9.on hS10; have hrX := hr9.on hS10; clear hq9 hr9 hR89 hR9) | (go_at_call 18; (refine (rf_same7 _ _ _ _ (oneD A7 n c7 X Y O) (oneD A n c X Y O) _ ((rdO_one rfl _ hqX (by omega)).on ((Since.refl _).alloc _)) (rdO_one (by simp) _ (hrX.on ((Since.refl _).alloc _)) (by omega)) (likeO_refl _ _ _ _ _ _ _ _) (by simp [oneD, maxLen])).mono ?_); rintro e w11 ⟨rfl, hS11⟩))
    go_ret
    exact ⟨by first | rfl | simp, by (repeat (first | with_reducible (exact Since.refl _) | with_reducible assumption | with_reducible (refine Since.drew ?_) | with_reducible (refine Since.drewN ?_ _) | with_reducible (refine Since.alloc ?_ _) | (with_reducible (refine Since.setCell ?_ ?_ _); rotate_left; focus (first | (simp; done) | (simp; omega) | omega)) | (with_reducible (refine Since.trans ?_ (by with_reducible assumption)))))⟩
  · have hd : decide ((5000 : Int) < (n : Int)) = true := by simp; omega
    have hd2 : (5000 : Int) < (n : Int) := by omega
    go_enter Try.func3, Try.ntmps3
    go_wp2_with (go_at_call 14; (with_reducible refine (alive11 _).mono ?_); rintro e w1 ⟨rfl, hS1⟩)
    go_ret
    exact ⟨rfl, by (repeat (first | with_reducible (exact Since.refl _) | with_reducible assumption | with_reducible (refine Since.drew ?_) | with_reducible (refine Since.drewN ?_ _) | with_reducible (refine Since.alloc ?_ _) | (with_reducible (refine Since.setCell ?_ ?_ _); rotate_left; focus (first | (simp; done) | (simp; omega) | omega)) | (with_reducible (refine Since.trans ?_ (by with_reducible assumption)))))⟩
end Go.Proofs.Ytdbenpncnkfliaa
