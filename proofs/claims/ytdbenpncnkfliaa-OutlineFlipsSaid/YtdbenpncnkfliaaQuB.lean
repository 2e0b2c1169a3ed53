/-
  Layer 13: 'At', walked.
-/
import Derived.Test.YtdbenpncnkfliaaQuA
namespace Go.Proofs.Ytdbenpncnkfliaa
open Go.RowKit
set_option linter.unusedVariables false

theorem mul_in {x y X Y : Int} (h1 : -X ≤ x) (h2 : x ≤ X) (h3 : 0 ≤ y) (h4 : y ≤ Y) : -(X * Y) ≤ x * y ∧ x * y ≤ X * Y := by
  have hX : 0 ≤ X := by omega
  have a : X * y ≤ X * Y := Int.mul_le_mul_of_nonneg_left h4 hX
  have b : x * y ≤ X * y := Int.mul_le_mul_of_nonneg_right h2 h3
  have c : -X * y ≤ x * y := Int.mul_le_mul_of_nonneg_right h1 h3
  rw [Int.neg_mul] at c
  omega
/-- At a straight piece's share; at a curve's. -/
def lineI (a b l k p : Int) : Int := (a * l + b * k) * p
def curveI (a c b l k : Int) : Int := a * l * l + 2 * c * k * l + b * k * k
def Tny (x : Int) : Prop := -4194304 ≤ x ∧ x ≤ 4194304
theorem lineI_in {a b l k p : Int} (ha : Tny a) (hb : Tny b) (hl : 0 ≤ l) (hk : 0 ≤ k) (hs : l + k = p) (hp : p ≤ 1024) : -8589934592 ≤ a * l ∧ a * l ≤ 8589934592 ∧ -8589934592 ≤ b * k ∧ b * k ≤ 8589934592 ∧ -4294967296 ≤ a * l + b * k ∧ a * l + b * k ≤ 4294967296 ∧ -4398046511104 ≤ lineI a b l k p ∧ lineI a b l k p ≤ 4398046511104 := by
  unfold Tny at *
  have h1 := mul_in (X := 4194304) (Y := 1024) (by omega) (by omega) hl (by omega : l ≤ 1024) (x := a)
  have h2 := mul_in (X := 4194304) (Y := 1024) (by omega) (by omega) hk (by omega : k ≤ 1024) (x := b)
  have h3 := mul_in (X := 4194304) (Y := p) (by omega) (by omega) hl (by omega : l ≤ p) (x := a)
  have u1 : a * l ≤ 4194304 * l := Int.mul_le_mul_of_nonneg_right (by omega) hl
  have u2 : b * k ≤ 4194304 * k := Int.mul_le_mul_of_nonneg_right (by omega) hk
  have u3 : (-4194304) * l ≤ a * l := Int.mul_le_mul_of_nonneg_right (by omega) hl
  have u4 : (-4194304) * k ≤ b * k := Int.mul_le_mul_of_nonneg_right (by omega) hk
  have h5 : -4294967296 ≤ a * l + b * k ∧ a * l + b * k ≤ 4294967296 := by omega
  have h4 := mul_in (X := 4294967296) (Y := 1024) h5.1 h5.2 (by omega : 0 ≤ p) hp
  unfold lineI
  omega
theorem curveI_in {a c b l k : Int} (ha : Tny a) (hc : Tny c) (hb : Tny b) (hl : 0 ≤ l) (hk : 0 ≤ k) (hs : l + k ≤ 1024) :
    (-4398046511104 ≤ a * l ∧ a * l ≤ 4398046511104) ∧ (-4398046511104 ≤ a * l * l ∧ a * l * l ≤ 4398046511104) ∧ (-8589934592 ≤ 2 * c * k ∧ 2 * c * k ≤ 8589934592) ∧ (-8796093022208 ≤ 2 * c * k * l ∧ 2 * c * k * l ≤ 8796093022208) ∧ (-4398046511104 ≤ b * k ∧ b * k ≤ 4398046511104) ∧ (-4398046511104 ≤ b * k * k ∧ b * k * k ≤ 4398046511104) ∧ (-17592186044416 ≤ curveI a c b l k ∧ curveI a c b l k ≤ 17592186044416) := by
  unfold Tny at *
  have h1 := mul_in (X := 4194304) (Y := 1024) (by omega) (by omega) hl (by omega : l ≤ 1024) (x := a)
  have h2 := mul_in (X := 4294967296) (Y := 1024) (by omega) (by omega) hl (by omega : l ≤ 1024) (x := a * l)
  have h3 := mul_in (X := 8388608) (Y := 1024) (by omega) (by omega) hk (by omega : k ≤ 1024) (x := 2 * c)
  have h4 := mul_in (X := 8589934592) (Y := 1024) (by omega) (by omega) hl (by omega : l ≤ 1024) (x := 2 * c * k)
  have h5 := mul_in (X := 4194304) (Y := 1024) (by omega) (by omega) hk (by omega : k ≤ 1024) (x := b)
  have h6 := mul_in (X := 4294967296) (Y := 1024) (by omega) (by omega) hk (by omega : k ≤ 1024) (x := b * k)
  unfold curveI
  omega

set_option maxHeartbeats 4000000 in
theorem qu_at1 (s : Sg) (a : Nat) (A C B l k n p : Int) (bs bl bk bn : Nat) (w : World) (hE : ∀ args w, (callFunc a args).run Try.prog w = .ok (.enter a args) w)
    (hs : SegAt w bs s) (hL : OneAt w bl (.int .i64 l)) (hK : OneAt w bk (.int .i64 k)) (hN : OneAt w bn (.int .i64 n))
    (hA : ∀ w, Calls Try.prog a #[Pt s.ax s.ay] w fun e w2 => e = .returned (.int .i64 A) ∧ Since w w2)
    (hC : ∀ w, Calls Try.prog a #[Pt s.cx s.cy] w fun e w2 => e = .returned (.int .i64 C) ∧ Since w w2)
    (hB : ∀ w, Calls Try.prog a #[Pt s.bx s.bz] w fun e w2 => e = .returned (.int .i64 B) ∧ Since w w2)
    (tA : Tny A) (tB : Tny B) (tC : s.k = true → Tny C) (hl : 0 ≤ l) (hk : 0 ≤ k) (hn : 0 ≤ n) (hn' : n ≤ 10) (hp : l + k = p) (hp2 : p = 2 ^ n.toNat) (hp3 : p ≤ 1024) :
    Calls Try.prog 71 #[.func (.func a) #[] #[], .pointer (some ⟨bs, 0, none⟩), .pointer (some ⟨bl, 0, none⟩), .pointer (some ⟨bk, 0, none⟩), .pointer (some ⟨bn, 0, none⟩)] w
      fun e w' => e = .returned (.int .i64 (if s.k then curveI A C B l k else lineI A B l k p)) ∧ Since w w' := by
  obtain ⟨ax, ay, cx, cy, bx, bz, kk⟩ := s
  simp only at hA hC hB
  obtain ⟨s1, s2, s3, s4, s5, s6, s7, s8⟩ := hs
  obtain ⟨l1, l2⟩ := hL
  obtain ⟨k1, k2⟩ := hK
  obtain ⟨n1, n2⟩ := hN
  simp only at s1 s2 s3 s4 s5 s6 s7 tC ⊢
  unfold Pt at hA hB hC
  have HA := Lib.hid hA
  have HB := Lib.hid hB
  have HC := Lib.hid hC
  clear hA hB hC
  cases kk with
  | false =>
    have b1 := lineI_in tA tB hl hk hp hp3
    unfold lineI at *
    have w1 : IntKind.i64.wrap (A * l) = A * l := IntWalk.i64_in _ (by omega)
    have w2 : IntKind.i64.wrap (B * k) = B * k := IntWalk.i64_in _ (by omega)
    have w3 : IntKind.i64.wrap (A * l + B * k) = A * l + B * k := IntWalk.i64_in _ (by omega)
    have w4 : IntKind.i64.wrap ((A * l + B * k) * p) = (A * l + B * k) * p := IntWalk.i64_in _ (by omega)
    have hm : min n.toNat 64 = n.toNat := by omega
    have hp2' := hp2.symm
    have hn0 : ¬ n < 0 := by omega
    clear tA tB tC b1 hp hp2
    go_enter Try.func71, Try.ntmps71
    go_wp2
    (refine wp_named fun wr1 hwr1 => ?_; go_region_held3 (fun w' => (∀ b o, b < wr1.heap.size → w'.cell? ⟨b, o, none⟩ = wr1.cell? ⟨b, o, none⟩) ∧ (∀ b o, b < wr1.heap.size → w'.frozen? ⟨b, o, none⟩ = wr1.frozen? ⟨b, o, none⟩) ∧ (∀ k, k < wr1.heap.size → k < w'.heap.size) ∧ Below wr1.heap.size wr1 w') ((subst hwr1; (repeat (with_reducible (refine since_put ?_ ?_ _); rotate_left; focus (first | (simp; done) | (simp; omega) | omega))); first | assumption | (refine since_step (by assumption) ?_; first | assumption | ((repeat (first | with_reducible (exact Since.refl _) | with_reducible assumption | with_reducible (refine Since.drew ?_) | with_reducible (refine Since.drewN ?_ _) | with_reducible (refine Since.alloc ?_ _) | (with_reducible (refine Since.setCell ?_ ?_ _); rotate_left; focus (first | (simp; done) | (simp; omega) | omega)))); done)) | (refine since_step (Since.refl _) ?_; first | assumption | ((repeat (first | with_reducible (exact Since.refl _) | with_reducible assumption | with_reducible (refine Since.drew ?_) | with_reducible (refine Since.drewN ?_ _) | with_reducible (refine Since.alloc ?_ _) | (with_reducible (refine Since.setCell ?_ ?_ _); rotate_left; focus (first | (simp; done) | (simp; omega) | omega)) | (with_reducible (refine Since.trans ?_ (by with_reducible assumption))))); done)))) (first | (refine (Calls.mono (HA.out _) ?_); rintro e w1 ⟨rfl, hS⟩; have hZ := hS.below.size; (try simp at hZ)) | (refine (Calls.mono (HB.out _) ?_); rintro e w1 ⟨rfl, hS⟩; have hZ := hS.below.size; (try simp at hZ))); all_goals (rename_i hHeld; have hR1 : Since wr1 _ := hHeld; obtain ⟨hcR1, hfR1, hzR1, hbR1⟩ := hHeld; subst hwr1))
    all_goals go_wp2
    all_goals go_ret
    all_goals exact ⟨by first | rfl | simp, by (repeat (first | with_reducible (exact Since.refl _) | with_reducible assumption | with_reducible (refine Since.drew ?_) | with_reducible (refine Since.drewN ?_ _) | with_reducible (refine Since.alloc ?_ _) | (with_reducible (refine Since.setCell ?_ ?_ _); rotate_left; focus (first | (simp; done) | (simp; omega) | omega)) | (with_reducible (refine Since.trans ?_ (by with_reducible assumption)))))⟩
  | true =>
    have tC := tC rfl
    have b1 := curveI_in tA tC tB hl hk (by omega)
    unfold curveI at *
    have w1 : IntKind.i64.wrap (A * l) = A * l := IntWalk.i64_in _ (by omega)
    have w2 : IntKind.i64.wrap (A * l * l) = A * l * l := IntWalk.i64_in _ (by omega)
    have w3 : IntKind.i64.wrap (2 * C) = 2 * C := IntWalk.i64_in _ (by unfold Tny at tC; omega)
    have w4 : IntKind.i64.wrap (2 * C * k) = 2 * C * k := IntWalk.i64_in _ (by omega)
    have w5 : IntKind.i64.wrap (2 * C * k * l) = 2 * C * k * l := IntWalk.i64_in _ (by omega)
    have w6 : IntKind.i64.wrap (A * l * l + 2 * C * k * l) = A * l * l + 2 * C * k * l := IntWalk.i64_in _ (by omega)
    have w7 : IntKind.i64.wrap (B * k) = B * k := IntWalk.i64_in _ (by omega)
    have w8 : IntKind.i64.wrap (B * k * k) = B * k * k := IntWalk.i64_in _ (by omega)
    have w9 : IntKind.i64.wrap (A * l * l + 2 * C * k * l + B * k * k) = A * l * l + 2 * C * k * l + B * k * k := IntWalk.i64_in _ (by omega)
    clear tA tB tC b1 hp hp2 hp3
    go_enter Try.func71, Try.ntmps71
    go_wp2
    (refine wp_named fun wr1 hwr1 => ?_; go_region_held3 (fun w' => (∀ b o, b < wr1.heap.size → w'.cell? ⟨b, o, none⟩ = wr1.cell? ⟨b, o, none⟩) ∧ (∀ b o, b < wr1.heap.size → w'.frozen? ⟨b, o, none⟩ = wr1.frozen? ⟨b, o, none⟩) ∧ (∀ k, k < wr1.heap.size → k < w'.heap.size) ∧ Below wr1.heap.size wr1 w') ((subst hwr1; (repeat (with_reducible (refine since_put ?_ ?_ _); rotate_left; focus (first | (simp; done) | (simp; omega) | omega))); first | assumption | (refine since_step (by assumption) ?_; first | assumption | ((repeat (first | with_reducible (exact Since.refl _) | with_reducible assumption | with_reducible (refine Since.drew ?_) | with_reducible (refine Since.drewN ?_ _) | with_reducible (refine Since.alloc ?_ _) | (with_reducible (refine Since.setCell ?_ ?_ _); rotate_left; focus (first | (simp; done) | (simp; omega) | omega)))); done)) | (refine since_step (Since.refl _) ?_; first | assumption | ((repeat (first | with_reducible (exact Since.refl _) | with_reducible assumption | with_reducible (refine Since.drew ?_) | with_reducible (refine Since.drewN ?_ _) | with_reducible (refine Since.alloc ?_ _) | (with_reducible (refine Since.setCell ?_ ?_ _); rotate_left; focus (first | (simp; done) | (simp; omega) | omega)) | (with_reducible (refine Since.trans ?_ (by with_reducible assumption))))); done)))) (first | (refine (Calls.mono (HA.out _) ?_); rintro e w1 ⟨rfl, hS⟩; have hZ := hS.below.size; (try simp at hZ)) | (refine (Calls.mono (HC.out _) ?_); rintro e w1 ⟨rfl, hS⟩; have hZ := hS.below.size; (try simp at hZ)) | (refine (Calls.mono (HB.out _) ?_); rintro e w1 ⟨rfl, hS⟩; have hZ := hS.below.size; (try simp at hZ))); all_goals (rename_i hHeld; have hR1 : Since wr1 _ := hHeld; obtain ⟨hcR1, hfR1, hzR1, hbR1⟩ := hHeld; subst hwr1))
    all_goals go_wp2
    all_goals go_ret
    all_goals exact ⟨by first | rfl | simp, by (repeat (first | with_reducible (exact Since.refl _) | with_reducible assumption | with_reducible (refine Since.drew ?_) | with_reducible (refine Since.drewN ?_ _) | with_reducible (refine Since.alloc ?_ _) | (with_reducible (refine Since.setCell ?_ ?_ _); rotate_left; focus (first | (simp; done) | (simp; omega) | omega)) | (with_reducible (refine Since.trans ?_ (by with_reducible assumption)))))⟩
end Go.Proofs.Ytdbenpncnkfliaa
