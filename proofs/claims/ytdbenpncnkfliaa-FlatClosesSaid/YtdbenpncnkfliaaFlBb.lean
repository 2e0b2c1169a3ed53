/-
  Texts of this seat, put together: each with its own head.
-/
import Derived.Test.YtdbenpncnkfliaaFlBa
import Derived.Shelf.Abstract
import Derived.Carry
import Derived.SizedLaws

/-
  Layer 13: pieces of a contour in memory; 'both', 'inRange', 'splits', walked.
-/
namespace Go.Proofs.Ytdbenpncnkfliaa
open Go.RowKit
set_option linter.unusedVariables false

/-- A piece's numbers. -/
structure Sg where
  (ax ay cx cy bx bz : Int) (k : Bool)
def Sg.v (s : Sg) : Value := .agg #[.int .i64 s.ax, .int .i64 s.ay, .int .i64 s.cx, .int .i64 s.cy, .int .i64 s.bx, .int .i64 s.bz, .bool s.k]
def Sg.cells (s : Sg) : Array Value := #[.int .i64 s.ax, .int .i64 s.ay, .int .i64 s.cx, .int .i64 s.cy, .int .i64 s.bx, .int .i64 s.bz, .bool s.k]
def Sg.wf (s : Sg) : Prop := InP s.ax s.ay ∧ InP s.cx s.cy ∧ InP s.bx s.bz
/-- A block holds a piece. -/
def SegAt (w : World) (b : Nat) (s : Sg) : Prop := w.cell? ⟨b, 0, none⟩ = some (.int .i64 s.ax) ∧ w.cell? ⟨b, 1, none⟩ = some (.int .i64 s.ay) ∧ w.cell? ⟨b, 2, none⟩ = some (.int .i64 s.cx) ∧ w.cell? ⟨b, 3, none⟩ = some (.int .i64 s.cy) ∧ w.cell? ⟨b, 4, none⟩ = some (.int .i64 s.bx) ∧ w.cell? ⟨b, 5, none⟩ = some (.int .i64 s.bz) ∧ w.cell? ⟨b, 6, none⟩ = some (.bool s.k) ∧ b < w.heap.size
section
variable {w w' : World} {b : Nat} {s : Sg}
theorem SegAt.since (h : SegAt w b s) (k : Since w w') : SegAt w' b s := by
  obtain ⟨h1, h2, h3, h4, h5, h6, h7, h8⟩ := h
  exact ⟨(k.1 _ _ h8).trans h1, (k.1 _ _ h8).trans h2, (k.1 _ _ h8).trans h3, (k.1 _ _ h8).trans h4, (k.1 _ _ h8).trans h5, (k.1 _ _ h8).trans h6, (k.1 _ _ h8).trans h7, k.2.2.1 _ h8⟩
theorem SegAt.alloc (h : SegAt w b s) (o : Obj) : SegAt (w.alloc o) b s := h.since ((Since.refl w).alloc o)
theorem seg_new (w : World) (b : Nat) (hb : b = w.heap.size) (s : Sg) (t : TypeId) : SegAt (w.alloc (.cells #[.int .i64 s.ax, .int .i64 s.ay, .int .i64 s.cx, .int .i64 s.cy, .int .i64 s.bx, .int .i64 s.bz, .bool s.k] t)) b s := by
  subst hb
  refine ⟨?_, ?_, ?_, ?_, ?_, ?_, ?_, by simp⟩ <;> (rw [World.cell?_alloc_new]; rfl)
end
/-- A block holds one value. -/
def OneAt (w : World) (b : Nat) (v : Value) : Prop := w.cell? ⟨b, 0, none⟩ = some v ∧ b < w.heap.size
theorem OneAt.since {w w' : World} {b : Nat} {v : Value} (h : OneAt w b v) (k : Since w w') : OneAt w' b v := ⟨(k.1 _ _ h.2).trans h.1, k.2.2.1 _ h.2⟩
theorem OneAt.alloc {w : World} {b : Nat} {v : Value} (h : OneAt w b v) (o : Obj) : OneAt (w.alloc o) b v := h.since ((Since.refl w).alloc o)
theorem one_new (w : World) (b : Nat) (hb : b = w.heap.size) (v : Value) (t : TypeId) : OneAt (w.alloc (.cells #[v] t)) b v := by
  subst hb
  exact ⟨by rw [World.cell?_alloc_new]; rfl, by simp⟩

theorem enters71 : ∀ args w, (callFunc 72 args).run Try.prog w = .ok (.enter 72 args) w := enters_of Try.func72 (by kernel_rfl) rfl
theorem enters72 : ∀ args w, (callFunc 73 args).run Try.prog w = .ok (.enter 73 args) w := enters_of Try.func73 (by kernel_rfl) rfl
theorem qu_axisX (x y : Int) (w : World) : Calls Try.prog 72 #[Pt x y] w fun e w' => e = .returned (.int .i64 x) ∧ Since w w' := by
  unfold Pt
  go_enter Try.func72, Try.ntmps72
  go_wp2
  go_ret
  exact ⟨rfl, by (repeat (first | with_reducible (exact Since.refl _) | with_reducible assumption | with_reducible (refine Since.drew ?_) | with_reducible (refine Since.drewN ?_ _) | with_reducible (refine Since.alloc ?_ _) | (with_reducible (refine Since.setCell ?_ ?_ _); rotate_left; focus (first | (simp; done) | (simp; omega) | omega)) | (with_reducible (refine Since.trans ?_ (by with_reducible assumption)))))⟩
theorem qu_axisY (x y : Int) (w : World) : Calls Try.prog 73 #[Pt x y] w fun e w' => e = .returned (.int .i64 y) ∧ Since w w' := by
  unfold Pt
  go_enter Try.func73, Try.ntmps73
  go_wp2
  go_ret
  exact ⟨rfl, by (repeat (first | with_reducible (exact Since.refl _) | with_reducible assumption | with_reducible (refine Since.drew ?_) | with_reducible (refine Since.drewN ?_ _) | with_reducible (refine Since.alloc ?_ _) | (with_reducible (refine Since.setCell ?_ ?_ _); rotate_left; focus (first | (simp; done) | (simp; omega) | omega)) | (with_reducible (refine Since.trans ?_ (by with_reducible assumption)))))⟩
set_option maxHeartbeats 4000000 in
theorem qu_both (k : Nat) (cap : Array Value) (X Y : Int) (w : World) (hE : ∀ args w, (callFunc k args).run Try.prog w = .ok (.enter k args) w)
    (hX : ∀ w1, Since w w1 → Calls Try.prog k (#[.func (.func 72) #[] #[]] ++ cap) w1 fun e w2 => e = .returned (.int .i64 X) ∧ Since w1 w2)
    (hY : ∀ w1, Since w w1 → Calls Try.prog k (#[.func (.func 73) #[] #[]] ++ cap) w1 fun e w2 => e = .returned (.int .i64 Y) ∧ Since w1 w2) :
    Calls Try.prog 67 #[.func (.func k) #[] cap] w fun e w' => e = .returned (Pt X Y) ∧ Since w w' := by
  have HX := Lib.hid hX
  have HY := Lib.hid hY
  clear hX hY
  unfold Pt
  go_enter Try.func67, Try.ntmps67
  go_wp2_with (first | (refine (Calls.mono (HX.out _ (by (repeat (first | with_reducible (exact Since.refl _) | with_reducible assumption | with_reducible (refine Since.drew ?_) | with_reducible (refine Since.drewN ?_ _) | with_reducible (refine Since.alloc ?_ _) | (with_reducible (refine Since.setCell ?_ ?_ _); rotate_left; focus (first | (simp; done) | (simp; omega) | omega)) | (with_reducible (refine Since.trans ?_ (by with_reducible assumption))))))) ?_); rintro e w1 ⟨rfl, hS1⟩; have hZ := (zero2_new w _ rfl _).since hS1; have hS : Since w w1 := (by (repeat (first | with_reducible (exact Since.refl _) | with_reducible assumption | with_reducible (refine Since.drew ?_) | with_reducible (refine Since.drewN ?_ _) | with_reducible (refine Since.alloc ?_ _) | (with_reducible (refine Since.setCell ?_ ?_ _); rotate_left; focus (first | (simp; done) | (simp; omega) | omega)) | (with_reducible (refine Since.trans ?_ (by with_reducible assumption)))))); clear hS1) | (refine (Calls.mono (HY.out _ (by (repeat (first | with_reducible (exact Since.refl _) | with_reducible assumption | with_reducible (refine Since.drew ?_) | with_reducible (refine Since.drewN ?_ _) | with_reducible (refine Since.alloc ?_ _) | (with_reducible (refine Since.setCell ?_ ?_ _); rotate_left; focus (first | (simp; done) | (simp; omega) | omega)) | (with_reducible (refine Since.trans ?_ (by with_reducible assumption))))))) ?_); rintro e w2 ⟨rfl, hS2⟩; have hZ2 := hZ.since hS2; have hS3 := hS.trans hS2; clear hZ hS hS2; obtain ⟨⟨z1, z2, z3⟩, zF⟩ := hZ2; have zF0 := zF 0; have zF1 := zF 1; clear zF))
  refine bodyPost_ret (by simp only [results, Try.results67]; go_simp) rfl ⟨rfl, ?_⟩
  (repeat (first | with_reducible (exact Since.refl _) | with_reducible assumption | with_reducible (refine Since.drew ?_) | with_reducible (refine Since.drewN ?_ _) | with_reducible (refine Since.alloc ?_ _) | (with_reducible (refine Since.setCell ?_ ?_ _); rotate_left; focus (first | (simp; done) | (simp; omega) | omega)) | (with_reducible (refine Since.trans ?_ (by with_reducible assumption)))))

def inR (s : Sg) : Bool := goodB s.ax s.ay && goodB s.bx s.bz && (!s.k || goodB s.cx s.cy)
set_option maxHeartbeats 4000000 in
theorem qu_inRange (s : Sg) (h : s.wf) (w : World) : Calls Try.prog 69 #[s.v] w fun e w' => e = .returned (.bool (inR s)) ∧ Since w w' := by
  obtain ⟨h1, h2, h3⟩ := h
  have g2 := fun w b hb t => good2 w b hb s.ax s.ay s.bx s.bz t h1 h3
  have g1 := fun w b hb t => good1 w b hb s.cx s.cy t h2
  obtain ⟨ax, ay, cx, cy, bx, bz, k⟩ := s
  unfold inR Sg.v
  simp only at *
  generalize (goodB ax ay && goodB bx bz) = G at *
  generalize goodB cx cy = G' at *
  have H2 := Lib.hid g2
  have H1 := Lib.hid g1
  clear g1 g2 h1 h2 h3
  cases G <;> cases k
  all_goals
    go_enter Try.func69, Try.ntmps69
    go_wp2_with (first | (go_at_call 57; (with_reducible refine (H2.out _ _ (by simp) _).mono ?_); rintro e w1 ⟨rfl, hS1⟩; have hX1 := (((seg_new w _ rfl ⟨ax, ay, cx, cy, bx, bz, _⟩ _).alloc _)).since hS1; have hS : Since w w1 := (by (repeat (first | with_reducible (exact Since.refl _) | with_reducible assumption | with_reducible (refine Since.drew ?_) | with_reducible (refine Since.drewN ?_ _) | with_reducible (refine Since.alloc ?_ _) | (with_reducible (refine Since.setCell ?_ ?_ _); rotate_left; focus (first | (simp; done) | (simp; omega) | omega)) | (with_reducible (refine Since.trans ?_ (by with_reducible assumption)))))); clear hS1; obtain ⟨s1, s2, s3, s4, s5, s6, s7, s8⟩ := hX1; simp only at s1 s2 s3 s4 s5 s6 s7) | (go_at_call 57; (with_reducible refine (H1.out _ _ (by simp) _).mono ?_); rintro e w2 ⟨rfl, hS2⟩; have hS3 : Since w w2 := (by (repeat (first | with_reducible (exact Since.refl _) | with_reducible assumption | with_reducible (refine Since.drew ?_) | with_reducible (refine Since.drewN ?_ _) | with_reducible (refine Since.alloc ?_ _) | (with_reducible (refine Since.setCell ?_ ?_ _); rotate_left; focus (first | (simp; done) | (simp; omega) | omega)) | (with_reducible (refine Since.trans ?_ (by with_reducible assumption))))))))
    go_ret
    exact ⟨by first | rfl | simp, by (repeat (first | with_reducible (exact Since.refl _) | with_reducible assumption | with_reducible (refine Since.drew ?_) | with_reducible (refine Since.drewN ?_ _) | with_reducible (refine Since.alloc ?_ _) | (with_reducible (refine Since.setCell ?_ ?_ _); rotate_left; focus (first | (simp; done) | (simp; omega) | omega)) | (with_reducible (refine Since.trans ?_ (by with_reducible assumption)))))⟩
end Go.Proofs.Ytdbenpncnkfliaa

/-
  Layer 13: 'At', walked.
-/
namespace Go.Proofs.Ytdbenpncnkfliaa
open Go.RowKit
set_option linter.unusedVariables false

theorem mul_in {x y X Y : Int} (h1 : -X ≤ x) (h2 : x ≤ X) (h3 : 0 ≤ y) (h4 : y ≤ Y) : -(X * Y) ≤ x * y ∧ x * y ≤ X * Y := by
  have hX : 0 ≤ X := by omega
  have a : X * y ≤ X * Y := Int.mul_le_mul_of_nonneg_left h4 hX
  have b : x * y ≤ X * y := Int.mul_le_mul_of_nonneg_right h2 h3
  have c : -X * y ≤ x * y := Int.mul_le_mul_of_nonneg_right h1 h3
  rw [Int.neg_mul] at c
  omega
/-- At a straight piece's share; at a curve's. -/
def lineI (a b l k p : Int) : Int := (a * l + b * k) * p
def curveI (a c b l k : Int) : Int := a * l * l + 2 * c * k * l + b * k * k
def Tny (x : Int) : Prop := -4194304 ≤ x ∧ x ≤ 4194304
theorem lineI_in {a b l k p : Int} (ha : Tny a) (hb : Tny b) (hl : 0 ≤ l) (hk : 0 ≤ k) (hs : l + k = p) (hp : p ≤ 1024) : -8589934592 ≤ a * l ∧ a * l ≤ 8589934592 ∧ -8589934592 ≤ b * k ∧ b * k ≤ 8589934592 ∧ -4294967296 ≤ a * l + b * k ∧ a * l + b * k ≤ 4294967296 ∧ -4398046511104 ≤ lineI a b l k p ∧ lineI a b l k p ≤ 4398046511104 := by
  unfold Tny at *
  have h1 := mul_in (X := 4194304) (Y := 1024) (by omega) (by omega) hl (by omega : l ≤ 1024) (x := a)
  have h2 := mul_in (X := 4194304) (Y := 1024) (by omega) (by omega) hk (by omega : k ≤ 1024) (x := b)
  have h3 := mul_in (X := 4194304) (Y := p) (by omega) (by omega) hl (by omega : l ≤ p) (x := a)
  have u1 : a * l ≤ 4194304 * l := Int.mul_le_mul_of_nonneg_right (by omega) hl
  have u2 : b * k ≤ 4194304 * k := Int.mul_le_mul_of_nonneg_right (by omega) hk
  have u3 : (-4194304) * l ≤ a * l := Int.mul_le_mul_of_nonneg_right (by omega) hl
  have u4 : (-4194304) * k ≤ b * k := Int.mul_le_mul_of_nonneg_right (by omega) hk
  have h5 : -4294967296 ≤ a * l + b * k ∧ a * l + b * k ≤ 4294967296 := by omega
  have h4 := mul_in (X := 4294967296) (Y := 1024) h5.1 h5.2 (by omega : 0 ≤ p) hp
  unfold lineI
  omega
theorem curveI_in {a c b l k : Int} (ha : Tny a) (hc : Tny c) (hb : Tny b) (hl : 0 ≤ l) (hk : 0 ≤ k) (hs : l + k ≤ 1024) :
    (-4398046511104 ≤ a * l ∧ a * l ≤ 4398046511104) ∧ (-4398046511104 ≤ a * l * l ∧ a * l * l ≤ 4398046511104) ∧ (-8589934592 ≤ 2 * c * k ∧ 2 * c * k ≤ 8589934592) ∧ (-8796093022208 ≤ 2 * c * k * l ∧ 2 * c * k * l ≤ 8796093022208) ∧ (-4398046511104 ≤ b * k ∧ b * k ≤ 4398046511104) ∧ (-4398046511104 ≤ b * k * k ∧ b * k * k ≤ 4398046511104) ∧ (-17592186044416 ≤ curveI a c b l k ∧ curveI a c b l k ≤ 17592186044416) := by
  unfold Tny at *
  have h1 := mul_in (X := 4194304) (Y := 1024) (by omega) (by omega) hl (by omega : l ≤ 1024) (x := a)
  have h2 := mul_in (X := 4294967296) (Y := 1024) (by omega) (by omega) hl (by omega : l ≤ 1024) (x := a * l)
  have h3 := mul_in (X := 8388608) (Y := 1024) (by omega) (by omega) hk (by omega : k ≤ 1024) (x := 2 * c)
  have h4 := mul_in (X := 8589934592) (Y := 1024) (by omega) (by omega) hl (by omega : l ≤ 1024) (x := 2 * c * k)
  have h5 := mul_in (X := 4194304) (Y := 1024) (by omega) (by omega) hk (by omega : k ≤ 1024) (x := b)
  have h6 := mul_in (X := 4294967296) (Y := 1024) (by omega) (by omega) hk (by omega : k ≤ 1024) (x := b * k)
  unfold curveI
  omega

set_option maxHeartbeats 4000000 in
theorem qu_at1 (s : Sg) (a : Nat) (A C B l k n p : Int) (bs bl bk bn : Nat) (w : World) (hE : ∀ args w, (callFunc a args).run Try.prog w = .ok (.enter a args) w)
    (hs : SegAt w bs s) (hL : OneAt w bl (.int .i64 l)) (hK : OneAt w bk (.int .i64 k)) (hN : OneAt w bn (.int .i64 n))
    (hA : ∀ w, Calls Try.prog a #[Pt s.ax s.ay] w fun e w2 => e = .returned (.int .i64 A) ∧ Since w w2)
    (hC : ∀ w, Calls Try.prog a #[Pt s.cx s.cy] w fun e w2 => e = .returned (.int .i64 C) ∧ Since w w2)
    (hB : ∀ w, Calls Try.prog a #[Pt s.bx s.bz] w fun e w2 => e = .returned (.int .i64 B) ∧ Since w w2)
    (tA : Tny A) (tB : Tny B) (tC : s.k = true → Tny C) (hl : 0 ≤ l) (hk : 0 ≤ k) (hn : 0 ≤ n) (hn' : n ≤ 10) (hp : l + k = p) (hp2 : p = 2 ^ n.toNat) (hp3 : p ≤ 1024) :
    Calls Try.prog 71 #[.func (.func a) #[] #[], .pointer (some ⟨bs, 0, none⟩), .pointer (some ⟨bl, 0, none⟩), .pointer (some ⟨bk, 0, none⟩), .pointer (some ⟨bn, 0, none⟩)] w
      fun e w' => e = .returned (.int .i64 (if s.k then curveI A C B l k else lineI A B l k p)) ∧ Since w w' := by
  obtain ⟨ax, ay, cx, cy, bx, bz, kk⟩ := s
  simp only at hA hC hB
  obtain ⟨s1, s2, s3, s4, s5, s6, s7, s8⟩ := hs
  obtain ⟨l1, l2⟩ := hL
  obtain ⟨k1, k2⟩ := hK
  obtain ⟨n1, n2⟩ := hN
  simp only at s1 s2 s3 s4 s5 s6 s7 tC ⊢
  unfold Pt at hA hB hC
  have HA := Lib.hid hA
  have HB := Lib.hid hB
  have HC := Lib.hid hC
  clear hA hB hC
  cases kk with
  | false =>
    have b1 := lineI_in tA tB hl hk hp hp3
    unfold lineI at *
    have w1 : IntKind.i64.wrap (A * l) = A * l := IntWalk.i64_in _ (by omega)
    have w2 : IntKind.i64.wrap (B * k) = B * k := IntWalk.i64_in _ (by omega)
    have w3 : IntKind.i64.wrap (A * l + B * k) = A * l + B * k := IntWalk.i64_in _ (by omega)
    have w4 : IntKind.i64.wrap ((A * l + B * k) * p) = (A * l + B * k) * p := IntWalk.i64_in _ (by omega)
    have hm : min n.toNat 64 = n.toNat := by omega
    have hp2' := hp2.symm
    have hn0 : ¬ n < 0 := by omega
    clear tA tB tC b1 hp hp2
    go_enter Try.func71, Try.ntmps71
    go_wp2
    (refine wp_named fun wr1 hwr1 => ?_; go_region_held3 (fun w' => (∀ b o, b < wr1.heap.size → w'.cell? ⟨b, o, none⟩ = wr1.cell? ⟨b, o, none⟩) ∧ (∀ b o, b < wr1.heap.size → w'.frozen? ⟨b, o, none⟩ = wr1.frozen? ⟨b, o, none⟩) ∧ (∀ k, k < wr1.heap.size → k < w'.heap.size) ∧ Below wr1.heap.size wr1 w') ((subst hwr1; (repeat (with_reducible (refine since_put ?_ ?_ _); rotate_left; focus (first | (simp; done) | (simp; omega) | omega))); first | assumption | (refine since_step (by assumption) ?_; first | assumption | ((repeat (first | with_reducible (exact Since.refl _) | with_reducible assumption | with_reducible (refine Since.drew ?_) | with_reducible (refine Since.drewN ?_ _) | with_reducible (refine Since.alloc ?_ _) | (with_reducible (refine Since.setCell ?_ ?_ _); rotate_left; focus (first | (simp; done) | (simp; omega) | omega)))); done)) | (refine since_step (Since.refl _) ?_; first | assumption | ((repeat (first | with_reducible (exact Since.refl _) | with_reducible assumption | with_reducible (refine Since.drew ?_) | with_reducible (refine Since.drewN ?_ _) | with_reducible (refine Since.alloc ?_ _) | (with_reducible (refine Since.setCell ?_ ?_ _); rotate_left; focus (first | (simp; done) | (simp; omega) | omega)) | (with_reducible (refine Since.trans ?_ (by with_reducible assumption))))); done)))) (first | (refine (Calls.mono (HA.out _) ?_); rintro e w1 ⟨rfl, hS⟩; have hZ := hS.below.size; (try simp at hZ)) | (refine (Calls.mono (HB.out _) ?_); rintro e w1 ⟨rfl, hS⟩; have hZ := hS.below.size; (try simp at hZ))); all_goals (rename_i hHeld; have hR1 : Since wr1 _ := hHeld; obtain ⟨hcR1, hfR1, hzR1, hbR1⟩ := hHeld; subst hwr1))
    all_goals go_wp2
    all_goals go_ret
    all_goals exact ⟨by first | rfl | simp, by (repeat (first | with_reducible (exact Since.refl _) | with_reducible assumption | with_reducible (refine Since.drew ?_) | with_reducible (refine Since.drewN ?_ _) | with_reducible (refine Since.alloc ?_ _) | (with_reducible (refine Since.setCell ?_ ?_ _); rotate_left; focus (first | (simp; done) | (simp; omega) | omega)) | (with_reducible (refine Since.trans ?_ (by with_reducible assumption)))))⟩
  | true =>
    have tC := tC rfl
    have b1 := curveI_in tA tC tB hl hk (by omega)
    unfold curveI at *
    have w1 : IntKind.i64.wrap (A * l) = A * l := IntWalk.i64_in _ (by omega)
    have w2 : IntKind.i64.wrap (A * l * l) = A * l * l := IntWalk.i64_in _ (by omega)
    have w3 : IntKind.i64.wrap (2 * C) = 2 * C := IntWalk.i64_in _ (by unfold Tny at tC; omega)
    have w4 : IntKind.i64.wrap (2 * C * k) = 2 * C * k := IntWalk.i64_in _ (by omega)
    have w5 : IntKind.i64.wrap (2 * C * k * l) = 2 * C * k * l := IntWalk.i64_in _ (by omega)
    have w6 : IntKind.i64.wrap (A * l * l + 2 * C * k * l) = A * l * l + 2 * C * k * l := IntWalk.i64_in _ (by omega)
    have w7 : IntKind.i64.wrap (B * k) = B * k := IntWalk.i64_in _ (by omega)
    have w8 : IntKind.i64.wrap (B * k * k) = B * k * k := IntWalk.i64_in _ (by omega)
    have w9 : IntKind.i64.wrap (A * l * l + 2 * C * k * l + B * k * k) = A * l * l + 2 * C * k * l + B * k * k := IntWalk.i64_in _ (by omega)
    clear tA tB tC b1 hp hp2 hp3
    go_enter Try.func71, Try.ntmps71
    go_wp2
    (refine wp_named fun wr1 hwr1 => ?_; go_region_held3 (fun w' => (∀ b o, b < wr1.heap.size → w'.cell? ⟨b, o, none⟩ = wr1.cell? ⟨b, o, none⟩) ∧ (∀ b o, b < wr1.heap.size → w'.frozen? ⟨b, o, none⟩ = wr1.frozen? ⟨b, o, none⟩) ∧ (∀ k, k < wr1.heap.size → k < w'.heap.size) ∧ Below wr1.heap.size wr1 w') ((subst hwr1; (repeat (with_reducible (refine since_put ?_ ?_ _); rotate_left; focus (first | (simp; done) | (simp; omega) | omega))); first | assumption | (refine since_step (by assumption) ?_; first | assumption | ((repeat (first | with_reducible (exact Since.refl _) | with_reducible assumption | with_reducible (refine Since.drew ?_) | with_reducible (refine Since.drewN ?_ _) | with_reducible (refine Since.alloc ?_ _) | (with_reducible (refine Since.setCell ?_ ?_ _); rotate_left; focus (first | (simp; done) | (simp; omega) | omega)))); done)) | (refine since_step (Since.refl _) ?_; first | assumption | ((repeat (first | with_reducible (exact Since.refl _) | with_reducible assumption | with_reducible (refine Since.drew ?_) | with_reducible (refine Since.drewN ?_ _) | with_reducible (refine Since.alloc ?_ _) | (with_reducible (refine Since.setCell ?_ ?_ _); rotate_left; focus (first | (simp; done) | (simp; omega) | omega)) | (with_reducible (refine Since.trans ?_ (by with_reducible assumption))))); done)))) (first | (refine (Calls.mono (HA.out _) ?_); rintro e w1 ⟨rfl, hS⟩; have hZ := hS.below.size; (try simp at hZ)) | (refine (Calls.mono (HC.out _) ?_); rintro e w1 ⟨rfl, hS⟩; have hZ := hS.below.size; (try simp at hZ)) | (refine (Calls.mono (HB.out _) ?_); rintro e w1 ⟨rfl, hS⟩; have hZ := hS.below.size; (try simp at hZ))); all_goals (rename_i hHeld; have hR1 : Since wr1 _ := hHeld; obtain ⟨hcR1, hfR1, hzR1, hbR1⟩ := hHeld; subst hwr1))
    all_goals go_wp2
    all_goals go_ret
    all_goals exact ⟨by first | rfl | simp, by (repeat (first | with_reducible (exact Since.refl _) | with_reducible assumption | with_reducible (refine Since.drew ?_) | with_reducible (refine Since.drewN ?_ _) | with_reducible (refine Since.alloc ?_ _) | (with_reducible (refine Since.setCell ?_ ?_ _); rotate_left; focus (first | (simp; done) | (simp; omega) | omega)) | (with_reducible (refine Since.trans ?_ (by with_reducible assumption)))))⟩
end Go.Proofs.Ytdbenpncnkfliaa

/-
  Layer 13: 'At' whole, walked.
-/
namespace Go.Proofs.Ytdbenpncnkfliaa
open Go.RowKit
set_option linter.unusedVariables false

theorem SegAt.drewN {w : World} {b : Nat} {s : Sg} (h : SegAt w b s) (k : Nat) : SegAt (w.drewN k) b s := h
theorem OneAt.drewN {w : World} {b : Nat} {v : Value} (h : OneAt w b v) (k : Nat) : OneAt (w.drewN k) b v := h
theorem SegAt.drew {w : World} {b : Nat} {s : Sg} (h : SegAt w b s) : SegAt w.drew b s := h
theorem OneAt.drew {w : World} {b : Nat} {v : Value} (h : OneAt w b v) : OneAt w.drew b v := h
theorem Zero2.drew {w : World} {b : Nat} (h : Zero2 w b) : Zero2 w.drew b := h
theorem Zero2.drewN {w : World} {b : Nat} (h : Zero2 w b) (k : Nat) : Zero2 (w.drewN k) b := h
def argOK (k n : Int) : Bool := decide (0 ≤ n ∧ n ≤ 10 ∧ 0 ≤ k ∧ k ≤ 2 ^ n.toNat)
def atI (s : Sg) (A C B k n : Int) : Int := if s.k then curveI A C B (2 ^ n.toNat - k) k else lineI A B (2 ^ n.toNat - k) k (2 ^ n.toNat)
def atX (s : Sg) (k n : Int) : Int := atI s s.ax s.cx s.bx k n
def atY (s : Sg) (k n : Int) : Int := atI s s.ay s.cy s.bz k n
def atE (s : Sg) (k n : Int) : Int := if argOK k n then (if inR s then 0 else 6) else 2
def atOK (s : Sg) (k n : Int) : Bool := argOK k n && inR s
theorem two_pow {n : Int} (h : 0 ≤ n) (h' : n ≤ 10) : (1 : Int) ≤ 2 ^ n.toNat ∧ (2 : Int) ^ n.toNat ≤ 1024 := by
  have : n.toNat ≤ 10 := by omega
  generalize n.toNat = m at *
  have hm : m = 0 ∨ m = 1 ∨ m = 2 ∨ m = 3 ∨ m = 4 ∨ m = 5 ∨ m = 6 ∨ m = 7 ∨ m = 8 ∨ m = 9 ∨ m = 10 := by omega
  rcases hm with rfl | rfl | rfl | rfl | rfl | rfl | rfl | rfl | rfl | rfl | rfl <;> decide
theorem tny_of {x y : Int} (h : goodB x y = true) : Tny x ∧ Tny y := by
  have := goodB_iff.1 h
  unfold Tny; omega
theorem enters56 : ∀ args w, (callFunc 71 args).run Try.prog w = .ok (.enter 71 args) w := enters_of Try.func71 (by kernel_rfl) rfl

set_option maxHeartbeats 8000000 in
theorem qu_at_bad (s : Sg) (k n : Int) (hk : In64 k) (hn : In64 n) (h : argOK k n = false) (w : World) :
    Calls Try.prog 66 #[s.v, .int .i64 k, .int .i64 n] w fun e w' => e = .returned (.tuple #[Pt 0 0, .int .i64 2]) ∧ Since w w' := by
  unfold argOK at h
  simp only [decide_eq_false_iff_not] at h
  unfold Pt Sg.v
  by_cases h1 : n < 0
  · have d1 : decide (n < 0) = true := decide_eq_true h1
    clear h h1
    go_enter Try.func66, Try.ntmps66
    go_wp2_with fail
    go_quiet (fail)
    go_wp2
    refine bodyPost_ret (by simp only [results, Try.results66]; go_simp) rfl ⟨rfl, ?_⟩
    (repeat (first | with_reducible (exact Since.refl _) | with_reducible assumption | with_reducible (refine Since.drew ?_) | with_reducible (refine Since.drewN ?_ _) | with_reducible (refine Since.alloc ?_ _) | (with_reducible (refine Since.setCell ?_ ?_ _); rotate_left; focus (first | (simp; done) | (simp; omega) | omega)) | (with_reducible (refine Since.trans ?_ (by with_reducible assumption)))))
  · have d1 : decide (n < 0) = false := decide_eq_false h1
    by_cases h2 : 10 < n
    · have d2 : decide (10 < n) = true := decide_eq_true h2
      clear h h1 h2
      go_enter Try.func66, Try.ntmps66
      go_wp2_with fail
      go_quiet (fail)
      go_wp2
      refine bodyPost_ret (by simp only [results, Try.results66]; go_simp) rfl ⟨rfl, ?_⟩
      (repeat (first | with_reducible (exact Since.refl _) | with_reducible assumption | with_reducible (refine Since.drew ?_) | with_reducible (refine Since.drewN ?_ _) | with_reducible (refine Since.alloc ?_ _) | (with_reducible (refine Since.setCell ?_ ?_ _); rotate_left; focus (first | (simp; done) | (simp; omega) | omega)) | (with_reducible (refine Since.trans ?_ (by with_reducible assumption)))))
    · have d2 : decide (10 < n) = false := decide_eq_false h2
      by_cases h3 : k < 0
      · have d3 : decide (k < 0) = true := decide_eq_true h3
        clear h h1 h2 h3
        go_enter Try.func66, Try.ntmps66
        go_wp2_with fail
        go_quiet (fail)
        go_wp2
        refine bodyPost_ret (by simp only [results, Try.results66]; go_simp) rfl ⟨rfl, ?_⟩
        (repeat (first | with_reducible (exact Since.refl _) | with_reducible assumption | with_reducible (refine Since.drew ?_) | with_reducible (refine Since.drewN ?_ _) | with_reducible (refine Since.alloc ?_ _) | (with_reducible (refine Since.setCell ?_ ?_ _); rotate_left; focus (first | (simp; done) | (simp; omega) | omega)) | (with_reducible (refine Since.trans ?_ (by with_reducible assumption)))))
      · have d3 : decide (k < 0) = false := decide_eq_false h3
        have hp := two_pow (n := n) (by omega) (by omega)
        have h4 : (2 : Int) ^ n.toNat < k := by omega
        have hm : min n.toNat 64 = n.toNat := by omega
        have hn0 : ¬ n < 0 := by omega
        generalize hP : (2 : Int) ^ n.toNat = p at *
        have w1 : IntKind.i64.wrap p = p := IntWalk.i64_in _ (by omega)
        have d4 : decide (p < k) = true := decide_eq_true h4
        clear h h1 h2 h3 h4 hp
        go_enter Try.func66, Try.ntmps66
        go_wp2_with fail
        go_quiet (fail)
        go_wp2
        refine bodyPost_ret (by simp only [results, Try.results66]; go_simp) rfl ⟨rfl, ?_⟩
        (repeat (first | with_reducible (exact Since.refl _) | with_reducible assumption | with_reducible (refine Since.drew ?_) | with_reducible (refine Since.drewN ?_ _) | with_reducible (refine Since.alloc ?_ _) | (with_reducible (refine Since.setCell ?_ ?_ _); rotate_left; focus (first | (simp; done) | (simp; omega) | omega)) | (with_reducible (refine Since.trans ?_ (by with_reducible assumption)))))

set_option maxHeartbeats 8000000 in
theorem qu_at_far (s : Sg) (hs : s.wf) (k n : Int) (hk : In64 k) (hn : In64 n) (h : argOK k n = true) (hr : inR s = false) (w : World) :
    Calls Try.prog 66 #[s.v, .int .i64 k, .int .i64 n] w fun e w' => e = .returned (.tuple #[Pt 0 0, .int .i64 6]) ∧ Since w w' := by
  have hc := fun w => qu_inRange s hs w
  rw [hr] at hc
  have HC := Lib.hid hc
  clear hc hr hs
  unfold argOK at h
  simp only [decide_eq_true_eq] at h
  obtain ⟨h1, h2, h3, h4⟩ := h
  have d1 : decide (n < 0) = false := decide_eq_false (by omega)
  have d2 : decide (10 < n) = false := decide_eq_false (by omega)
  have d3 : decide (k < 0) = false := decide_eq_false (by omega)
  have hp := two_pow h1 h2
  have hm : min n.toNat 64 = n.toNat := by omega
  have hn0 : ¬ n < 0 := by omega
  generalize hP : (2 : Int) ^ n.toNat = p at *
  have w1 : IntKind.i64.wrap p = p := IntWalk.i64_in _ (by omega)
  have d4 : decide (p < k) = false := decide_eq_false (by omega)
  clear h1 h2 h3 h4 hp
  unfold Pt Sg.v at *
  go_enter Try.func66, Try.ntmps66
  go_wp2_with fail
  go_quiet (fail)
  go_wp2_with (go_at_call 69; (with_reducible refine (HC.out _).mono ?_); rintro e w1 ⟨rfl, hS1⟩; have hZ := ((zero2_new _ (w.heap.size + 1 + 1 + 1) (by simp) _).drewN _).since hS1; have hS : Since w w1 := (by (repeat (first | with_reducible (exact Since.refl _) | with_reducible assumption | with_reducible (refine Since.drew ?_) | with_reducible (refine Since.drewN ?_ _) | with_reducible (refine Since.alloc ?_ _) | (with_reducible (refine Since.setCell ?_ ?_ _); rotate_left; focus (first | (simp; done) | (simp; omega) | omega)) | (with_reducible (refine Since.trans ?_ (by with_reducible assumption)))))); clear hS1; obtain ⟨⟨z1, z2, z3⟩, zF⟩ := hZ; have zF0 := zF 0; have zF1 := zF 1; clear zF)
  refine bodyPost_ret (by simp only [results, Try.results66]; go_simp) rfl ⟨rfl, ?_⟩
  (repeat (first | with_reducible (exact Since.refl _) | with_reducible assumption | with_reducible (refine Since.drew ?_) | with_reducible (refine Since.drewN ?_ _) | with_reducible (refine Since.alloc ?_ _) | (with_reducible (refine Since.setCell ?_ ?_ _); rotate_left; focus (first | (simp; done) | (simp; omega) | omega)) | (with_reducible (refine Since.trans ?_ (by with_reducible assumption)))))

set_option maxHeartbeats 8000000 in
theorem qu_at_ok (s : Sg) (hs : s.wf) (k n : Int) (hk : In64 k) (hn : In64 n) (h : argOK k n = true) (hr : inR s = true) (w : World) :
    Calls Try.prog 66 #[s.v, .int .i64 k, .int .i64 n] w fun e w' => e = .returned (.tuple #[Pt (atX s k n) (atY s k n), .int .i64 0]) ∧ Since w w' := by
  have hc := fun w => qu_inRange s hs w
  rw [hr] at hc
  have HC := Lib.hid hc
  clear hc
  unfold argOK at h
  simp only [decide_eq_true_eq] at h
  obtain ⟨h1, h2, h3, h4⟩ := h
  have d1 : decide (n < 0) = false := decide_eq_false (by omega)
  have d2 : decide (10 < n) = false := decide_eq_false (by omega)
  have d3 : decide (k < 0) = false := decide_eq_false (by omega)
  have hp := two_pow h1 h2
  have hm : min n.toNat 64 = n.toNat := by omega
  have hn0 : ¬ n < 0 := by omega
  unfold inR at hr
  simp only [Bool.and_eq_true, Bool.or_eq_true, Bool.not_eq_true'] at hr
  obtain ⟨⟨r1, r2⟩, r3⟩ := hr
  obtain ⟨t1, t2⟩ := tny_of r1
  obtain ⟨t3, t4⟩ := tny_of r2
  have t5 : s.k = true → Tny s.cx := fun e => by rcases r3 with r | r; (rw [e] at r; cases r); exact (tny_of r).1
  have t6 : s.k = true → Tny s.cy := fun e => by rcases r3 with r | r; (rw [e] at r; cases r); exact (tny_of r).2
  unfold atX atY atI
  generalize hP : (2 : Int) ^ n.toNat = p at *
  have w1 : IntKind.i64.wrap p = p := IntWalk.i64_in _ (by omega)
  have w2 : IntKind.i64.wrap (p - k) = p - k := IntWalk.i64_in _ (by omega)
  have d4 : decide (p < k) = false := decide_eq_false (by omega)
  have hF := fun (bs bl bk bn : Nat) (w : World) (q1 : SegAt w bs s) (q2 : OneAt w bl (.int .i64 (p - k))) (q3 : OneAt w bk (.int .i64 k)) (q4 : OneAt w bn (.int .i64 n)) =>
    qu_both 71 #[.pointer (some ⟨bs, 0, none⟩), .pointer (some ⟨bl, 0, none⟩), .pointer (some ⟨bk, 0, none⟩), .pointer (some ⟨bn, 0, none⟩)] _ _ w enters56
      (fun w1 hS => qu_at1 s 72 s.ax s.cx s.bx (p - k) k n p bs bl bk bn w1 enters71 (q1.since hS) (q2.since hS) (q3.since hS) (q4.since hS) (fun w => qu_axisX _ _ w) (fun w => qu_axisX _ _ w) (fun w => qu_axisX _ _ w) t1 t3 t5 (by omega) h3 h1 h2 (by omega) hP.symm hp.2)
      (fun w1 hS => qu_at1 s 73 s.ay s.cy s.bz (p - k) k n p bs bl bk bn w1 enters72 (q1.since hS) (q2.since hS) (q3.since hS) (q4.since hS) (fun w => qu_axisY _ _ w) (fun w => qu_axisY _ _ w) (fun w => qu_axisY _ _ w) t2 t4 t6 (by omega) h3 h1 h2 (by omega) hP.symm hp.2)
  generalize (if s.k = true then curveI s.ax s.cx s.bx (p - k) k else lineI s.ax s.bx (p - k) k p) = X at *
  generalize (if s.k = true then curveI s.ay s.cy s.bz (p - k) k else lineI s.ay s.bz (p - k) k p) = Y at *
  have HF := Lib.hid hF
  have hmf : ∀ (fn : Fn) (first cap : Array Value) (w : World), (Instr.makeFunc fn first cap).run Try.prog w = .ok (.func fn first cap) w := fun _ _ _ _ => rfl
  clear h1 h2 h3 h4 hp hF t1 t2 t3 t4 t5 t6 r1 r2 r3 hs
  unfold Pt Sg.v at *
  go_enter Try.func66, Try.ntmps66
  go_wp2_with fail
  go_quiet (fail)
  go_wp2_with (go_at_call 69; (with_reducible refine (HC.out _).mono ?_); rintro e w1 ⟨rfl, hS1⟩; have hX := (((((seg_new w _ rfl s _).alloc _).alloc _).alloc _).drewN _).since hS1; have hK := ((((one_new _ (w.heap.size + 1) (by simp) (.int .i64 k) _).alloc _).alloc _).drewN _).since hS1; have hN := (((one_new _ (w.heap.size + 1 + 1) (by simp) (.int .i64 n) _).alloc _).drewN _).since hS1; have hZ := ((zero2_new _ (w.heap.size + 1 + 1 + 1) (by simp) _).drewN _).since hS1; have hS : Since w w1 := (by (repeat (first | with_reducible (exact Since.refl _) | with_reducible assumption | with_reducible (refine Since.drew ?_) | with_reducible (refine Since.drewN ?_ _) | with_reducible (refine Since.alloc ?_ _) | (with_reducible (refine Since.setCell ?_ ?_ _); rotate_left; focus (first | (simp; done) | (simp; omega) | omega)) | (with_reducible (refine Since.trans ?_ (by with_reducible assumption)))))); clear hS1; obtain ⟨k1, k2⟩ := hK; obtain ⟨n1, n2⟩ := hN; clear HC)
  have hX5 := (hX.alloc (.cells #[.int .i64 (p - k)] 3)).drew
  have hZ5 := (hZ.alloc (.cells #[.int .i64 (p - k)] 3)).drew
  have hK5 := (OneAt.alloc ⟨k1, k2⟩ (.cells #[.int .i64 (p - k)] 3)).drew
  have hN5 := (OneAt.alloc ⟨n1, n2⟩ (.cells #[.int .i64 (p - k)] 3)).drew
  have hL5 := (one_new w1 _ rfl (.int .i64 (p - k)) 3).drew
  have hT5 := (hS.alloc (.cells #[.int .i64 (p - k)] 3)).drew
  clear hX hZ hS
  go_region
  all_goals
    clear k1 k2 n1 n2
    go_wp2_with (go_at_call 67; (with_reducible refine (HF.out _ _ _ _ _ hX5 hL5 hK5 hN5).mono ?_); rintro e w6 ⟨rfl, hS6⟩; have hZ6 := hZ5.since hS6; have hT6 := hT5.trans hS6; obtain ⟨⟨z1, z2, z3⟩, zF⟩ := hZ6; have zF0 := zF 0; have zF1 := zF 1; clear zF)
    refine bodyPost_ret (by simp only [results, Try.results66]; go_simp) rfl ⟨rfl, ?_⟩
    (repeat (first | with_reducible (exact Since.refl _) | with_reducible assumption | with_reducible (refine Since.drew ?_) | with_reducible (refine Since.drewN ?_ _) | with_reducible (refine Since.alloc ?_ _) | (with_reducible (refine Since.setCell ?_ ?_ _); rotate_left; focus (first | (simp; done) | (simp; omega) | omega)) | (with_reducible (refine Since.trans ?_ (by with_reducible assumption)))))
end Go.Proofs.Ytdbenpncnkfliaa

/-
  Layer 13: 'Round', walked.
-/
namespace Go.Proofs.Ytdbenpncnkfliaa
open Go.RowKit
set_option linter.unusedVariables false

theorem qu_at_no (s : Sg) (hs : s.wf) (k n : Int) (hk : In64 k) (hn : In64 n) (h : atOK s k n = false) (w : World) :
    Calls Try.prog 66 #[s.v, .int .i64 k, .int .i64 n] w fun e w' => e = .returned (.tuple #[Pt 0 0, .int .i64 (atE s k n)]) ∧ Since w w' := by
  unfold atOK at h
  unfold atE
  cases h1 : argOK k n with
  | false => simpa using qu_at_bad s k n hk hn h1 w
  | true =>
    rw [h1] at h
    simp only [Bool.true_and] at h
    simpa [h] using qu_at_far s hs k n hk hn h1 h w
theorem qu_at_yes (s : Sg) (hs : s.wf) (k n : Int) (hk : In64 k) (hn : In64 n) (h : atOK s k n = true) (w : World) :
    Calls Try.prog 66 #[s.v, .int .i64 k, .int .i64 n] w fun e w' => e = .returned (.tuple #[Pt (atX s k n) (atY s k n), .int .i64 0]) ∧ Since w w' := by
  unfold atOK at h
  obtain ⟨h1, h2⟩ := Bool.and_eq_true_iff.1 h
  exact qu_at_ok s hs k n hk hn h1 h2 w
theorem atE_no {s : Sg} {k n : Int} (h : atOK s k n = false) : atE s k n = 2 ∨ atE s k n = 6 := by
  unfold atOK at h
  unfold atE
  cases h1 : argOK k n <;> cases h2 : inR s <;> simp_all
theorem atE_yes {s : Sg} {k n : Int} (h : atOK s k n = true) : atE s k n = 0 := by
  unfold atOK at h
  unfold atE
  cases h1 : argOK k n <;> cases h2 : inR s <;> simp_all
theorem arg_parts {k n : Int} (h : argOK k n = true) : 0 ≤ n ∧ n ≤ 10 ∧ 0 ≤ k ∧ k ≤ 2 ^ n.toNat := by unfold argOK at h; simpa using h
theorem inR_parts {s : Sg} (h : inR s = true) : (Tny s.ax ∧ Tny s.ay) ∧ (Tny s.bx ∧ Tny s.bz) ∧ (s.k = true → Tny s.cx ∧ Tny s.cy) := by
  unfold inR at h
  simp only [Bool.and_eq_true, Bool.or_eq_true, Bool.not_eq_true'] at h
  obtain ⟨⟨r1, r2⟩, r3⟩ := h
  exact ⟨tny_of r1, tny_of r2, fun e => by rcases r3 with r | r; (rw [e] at r; cases r); exact tny_of r⟩
theorem atI_in {s : Sg} {A C B k n : Int} (hA : Tny A) (hB : Tny B) (hC : s.k = true → Tny C) (h : argOK k n = true) : -17592186044416 ≤ atI s A C B k n ∧ atI s A C B k n ≤ 17592186044416 := by
  obtain ⟨h1, h2, h3, h4⟩ := arg_parts h
  have hp := two_pow h1 h2
  unfold atI
  cases hk : s.k with
  | false => have := lineI_in (p := 2 ^ n.toNat) (k := k) (l := 2 ^ n.toNat - k) hA hB (by omega) h3 (by omega) hp.2; simp only [Bool.false_eq_true, if_false]; omega
  | true => have := curveI_in (k := k) (l := 2 ^ n.toNat - k) hA (hC hk) hB (by omega) h3 (by omega); simp only [if_true]; omega
theorem at_in {s : Sg} {k n : Int} (h : atOK s k n = true) : (-17592186044416 ≤ atX s k n ∧ atX s k n ≤ 17592186044416) ∧ (-17592186044416 ≤ atY s k n ∧ atY s k n ≤ 17592186044416) := by
  unfold atOK at h
  obtain ⟨h1, h2⟩ := Bool.and_eq_true_iff.1 h
  obtain ⟨⟨a1, a2⟩, ⟨b1, b2⟩, c⟩ := inR_parts h2
  exact ⟨atI_in a1 b1 (fun e => (c e).1) h1, atI_in a2 b2 (fun e => (c e).2) h1⟩
theorem four_pow {n : Int} (h : 0 ≤ n) (h' : n ≤ 10) : (1 : Int) ≤ 2 ^ (2 * n).toNat ∧ (2 : Int) ^ (2 * n).toNat ≤ 1048576 := by
  have h0 : (2 * n).toNat = 2 * n.toNat := by omega
  rw [h0]
  have : n.toNat ≤ 10 := by omega
  generalize n.toNat = m at *
  have hm : m = 0 ∨ m = 1 ∨ m = 2 ∨ m = 3 ∨ m = 4 ∨ m = 5 ∨ m = 6 ∨ m = 7 ∨ m = 8 ∨ m = 9 ∨ m = 10 := by omega
  rcases hm with rfl | rfl | rfl | rfl | rfl | rfl | rfl | rfl | rfl | rfl | rfl <;> decide
/-- A number divided, rounded. -/
def rndI (v n : Int) : Int := (v + 2 ^ (2 * n).toNat / 2) / 2 ^ (2 * n).toNat
theorem PtAt.drew {w : World} {b : Nat} {x y : Int} (h : PtAt w b x y) : PtAt w.drew b x y := h
theorem PtAt.drewN {w : World} {b : Nat} {x y : Int} (h : PtAt w b x y) (k : Nat) : PtAt (w.drewN k) b x y := h

set_option maxHeartbeats 4000000 in
theorem qu_round1 (a : Nat) (x y V n q : Int) (bp bh bn : Nat) (w : World) (hE : ∀ args w, (callFunc a args).run Try.prog w = .ok (.enter a args) w)
    (hp : PtAt w bp x y) (hH : OneAt w bh (.int .i64 (q / 2))) (hN : OneAt w bn (.int .i64 n))
    (hA : ∀ w, Calls Try.prog a #[Pt x y] w fun e w2 => e = .returned (.int .i64 V) ∧ Since w w2)
    (tV : -17592186044416 ≤ V ∧ V ≤ 17592186044416) (hn : 0 ≤ n) (hn' : n ≤ 10) (hq : (2 : Int) ^ (2 * n).toNat = q) :
    Calls Try.prog 68 #[.func (.func a) #[] #[], .pointer (some ⟨bp, 0, none⟩), .pointer (some ⟨bh, 0, none⟩), .pointer (some ⟨bn, 0, none⟩)] w
      fun e w' => e = .returned (.int .i64 ((V + q / 2) / q)) ∧ Since w w' := by
  have h4 := four_pow hn hn'
  rw [hq] at h4
  obtain ⟨p1, p2, p3⟩ := hp
  obtain ⟨k1, k2⟩ := hH
  obtain ⟨n1, n2⟩ := hN
  unfold Pt at hA
  have HA := Lib.hid hA
  clear hA
  have w1 : IntKind.i64.wrap (V + q / 2) = V + q / 2 := IntWalk.i64_in _ (by omega)
  have w2 : IntKind.i64.wrap (2 * n) = 2 * n := IntWalk.i64_in _ (by omega)
  have hm : min (2 * n).toNat 64 = (2 * n).toNat := by omega
  have hn0 : ¬ 2 * n < 0 := by omega
  clear tV h4
  go_enter Try.func68, Try.ntmps68
  go_wp2
  (refine wp_named fun wr1 hwr1 => ?_; go_region_held3 (fun w' => (∀ b o, b < wr1.heap.size → w'.cell? ⟨b, o, none⟩ = wr1.cell? ⟨b, o, none⟩) ∧ (∀ b o, b < wr1.heap.size → w'.frozen? ⟨b, o, none⟩ = wr1.frozen? ⟨b, o, none⟩) ∧ (∀ k, k < wr1.heap.size → k < w'.heap.size) ∧ Below wr1.heap.size wr1 w') ((subst hwr1; (repeat (with_reducible (refine since_put ?_ ?_ _); rotate_left; focus (first | (simp; done) | (simp; omega) | omega))); first | assumption | (refine since_step (by assumption) ?_; first | assumption | ((repeat (first | with_reducible (exact Since.refl _) | with_reducible assumption | with_reducible (refine Since.drew ?_) | with_reducible (refine Since.drewN ?_ _) | with_reducible (refine Since.alloc ?_ _) | (with_reducible (refine Since.setCell ?_ ?_ _); rotate_left; focus (first | (simp; done) | (simp; omega) | omega)))); done)) | (refine since_step (Since.refl _) ?_; first | assumption | ((repeat (first | with_reducible (exact Since.refl _) | with_reducible assumption | with_reducible (refine Since.drew ?_) | with_reducible (refine Since.drewN ?_ _) | with_reducible (refine Since.alloc ?_ _) | (with_reducible (refine Since.setCell ?_ ?_ _); rotate_left; focus (first | (simp; done) | (simp; omega) | omega)) | (with_reducible (refine Since.trans ?_ (by with_reducible assumption))))); done)))) (first | (refine (Calls.mono (HA.out _) ?_); rintro e w1 ⟨rfl, hS⟩; have hZ := hS.below.size; (try simp at hZ))); all_goals (rename_i hHeld; have hR1 : Since wr1 _ := hHeld; obtain ⟨hcR1, hfR1, hzR1, hbR1⟩ := hHeld; subst hwr1))
  all_goals go_wp2
  all_goals go_ret
  all_goals exact ⟨by first | rfl | simp, by (repeat (first | with_reducible (exact Since.refl _) | with_reducible assumption | with_reducible (refine Since.drew ?_) | with_reducible (refine Since.drewN ?_ _) | with_reducible (refine Since.alloc ?_ _) | (with_reducible (refine Since.setCell ?_ ?_ _); rotate_left; focus (first | (simp; done) | (simp; omega) | omega)) | (with_reducible (refine Since.trans ?_ (by with_reducible assumption)))))⟩

theorem enters57 : ∀ args w, (callFunc 68 args).run Try.prog w = .ok (.enter 68 args) w := enters_of Try.func68 (by kernel_rfl) rfl
set_option maxHeartbeats 8000000 in
theorem qu_round_no (s : Sg) (hs : s.wf) (k n : Int) (hk : In64 k) (hn : In64 n) (h : atOK s k n = false) (w : World) :
    Calls Try.prog 63 #[s.v, .int .i64 k, .int .i64 n] w fun e w' => e = .returned (.tuple #[Pt 0 0, .int .i64 (atE s k n)]) ∧ Since w w' := by
  have hc := fun w => qu_at_no s hs k n hk hn h w
  have he : (atE s k n == 0) = false := by rcases atE_no h with e | e <;> rw [e] <;> rfl
  generalize atE s k n = E at *
  unfold Pt Sg.v at *
  have HC := Lib.hid hc
  clear hc hs h hk hn
  go_enter Try.func63, Try.ntmps63
  go_wp2_with (go_at_call 66; (with_reducible refine (HC.out _).mono ?_); rintro e w1 ⟨rfl, hS1⟩; have hZ := (zero2_new _ (w.heap.size + 1 + 1) (by simp) _).since hS1; have hS : Since w w1 := (by (repeat (first | with_reducible (exact Since.refl _) | with_reducible assumption | with_reducible (refine Since.drew ?_) | with_reducible (refine Since.drewN ?_ _) | with_reducible (refine Since.alloc ?_ _) | (with_reducible (refine Since.setCell ?_ ?_ _); rotate_left; focus (first | (simp; done) | (simp; omega) | omega)) | (with_reducible (refine Since.trans ?_ (by with_reducible assumption)))))); clear hS1; obtain ⟨⟨z1, z2, z3⟩, zF⟩ := hZ; have zF0 := zF 0; have zF1 := zF 1; clear zF)
  refine bodyPost_ret (by simp only [results, Try.results63]; go_simp) rfl ⟨rfl, ?_⟩
  (repeat (first | with_reducible (exact Since.refl _) | with_reducible assumption | with_reducible (refine Since.drew ?_) | with_reducible (refine Since.drewN ?_ _) | with_reducible (refine Since.alloc ?_ _) | (with_reducible (refine Since.setCell ?_ ?_ _); rotate_left; focus (first | (simp; done) | (simp; omega) | omega)) | (with_reducible (refine Since.trans ?_ (by with_reducible assumption)))))
set_option maxHeartbeats 8000000 in
theorem qu_round_yes (s : Sg) (hs : s.wf) (k n : Int) (hk : In64 k) (hn : In64 n) (h : atOK s k n = true) (w : World) :
    Calls Try.prog 63 #[s.v, .int .i64 k, .int .i64 n] w fun e w' => e = .returned (.tuple #[Pt (rndI (atX s k n) n) (rndI (atY s k n) n), .int .i64 0]) ∧ Since w w' := by
  have hc := fun w => qu_at_yes s hs k n hk hn h w
  have hin := at_in h
  unfold atOK at h
  obtain ⟨ho, hr⟩ := Bool.and_eq_true_iff.1 h
  obtain ⟨h1, h2, _, _⟩ := arg_parts ho
  have hp := four_pow h1 h2
  generalize atX s k n = X at *
  generalize atY s k n = Y at *
  unfold rndI
  generalize hq : (2 : Int) ^ (2 * n).toNat = q at *
  have hF := fun (bp bh bn : Nat) (w : World) (q1 : PtAt w bp X Y) (q2 : OneAt w bh (.int .i64 (q / 2))) (q4 : OneAt w bn (.int .i64 n)) =>
    qu_both 68 #[.pointer (some ⟨bp, 0, none⟩), .pointer (some ⟨bh, 0, none⟩), .pointer (some ⟨bn, 0, none⟩)] _ _ w enters57
      (fun w1 hS => qu_round1 72 X Y X n q bp bh bn w1 enters71 (q1.since hS) (q2.since hS) (q4.since hS) (fun w => qu_axisX _ _ w) hin.1 h1 h2 hq)
      (fun w1 hS => qu_round1 73 X Y Y n q bp bh bn w1 enters72 (q1.since hS) (q2.since hS) (q4.since hS) (fun w => qu_axisY _ _ w) hin.2 h1 h2 hq)
  have HF := Lib.hid hF
  have hmf : ∀ (fn : Fn) (first cap : Array Value) (w : World), (Instr.makeFunc fn first cap).run Try.prog w = .ok (.func fn first cap) w := fun _ _ _ _ => rfl
  have w1 : IntKind.i64.wrap q = q := IntWalk.i64_in _ (by omega)
  have w2 : IntKind.i64.wrap (2 * n) = 2 * n := IntWalk.i64_in _ (by omega)
  have w3 : IntKind.i64.wrap (q / 2) = q / 2 := IntWalk.i64_in _ (by omega)
  have hm : min (2 * n).toNat 64 = (2 * n).toNat := by omega
  have hn0 : ¬ 2 * n < 0 := by omega
  have hq0 : 0 ≤ q := by omega
  have hd : q.tdiv 2 = q / 2 := Int.tdiv_eq_ediv_of_nonneg hq0
  unfold Pt Sg.v at *
  have HC := Lib.hid hc
  clear hc hs h hk hn hF hin ho hr hp
  go_enter Try.func63, Try.ntmps63
  go_wp2_with (go_at_call 66; (with_reducible refine (HC.out _).mono ?_); rintro e w1 ⟨rfl, hS1⟩; have hN := ((one_new _ (w.heap.size + 1) (by simp) (.int .i64 n) _).alloc _).since hS1; have hZ := (zero2_new _ (w.heap.size + 1 + 1) (by simp) _).since hS1; have hS : Since w w1 := (by (repeat (first | with_reducible (exact Since.refl _) | with_reducible assumption | with_reducible (refine Since.drew ?_) | with_reducible (refine Since.drewN ?_ _) | with_reducible (refine Since.alloc ?_ _) | (with_reducible (refine Since.setCell ?_ ?_ _); rotate_left; focus (first | (simp; done) | (simp; omega) | omega)) | (with_reducible (refine Since.trans ?_ (by with_reducible assumption)))))); clear hS1; obtain ⟨n1, n2⟩ := hN; clear HC; have hP5 := (pt_new w1 _ rfl X Y 33).alloc (.cells #[.int .i64 (q / 2)] 3); have hH5 := one_new (w1.alloc (.cells #[.int .i64 X, .int .i64 Y] 33)) (w1.heap.size + 1) (by simp) (.int .i64 (q / 2)) 3; have hN5 := (OneAt.alloc ⟨n1, n2⟩ (.cells #[.int .i64 X, .int .i64 Y] 33)).alloc (.cells #[.int .i64 (q / 2)] 3); have hZ5 := (hZ.alloc (.cells #[.int .i64 X, .int .i64 Y] 33)).alloc (.cells #[.int .i64 (q / 2)] 3); have hS5 := (hS.alloc (.cells #[.int .i64 X, .int .i64 Y] 33)).alloc (.cells #[.int .i64 (q / 2)] 3); clear hZ hS)
  refine (HF.out _ _ _ _ hP5 hH5 hN5).mono ?_
  rintro e w6 ⟨rfl, hS6⟩
  have hZ6 := hZ5.since hS6
  have hT6 := hS5.trans hS6
  obtain ⟨⟨z1, z2, z3⟩, zF⟩ := hZ6
  have zF0 := zF 0
  have zF1 := zF 1
  clear zF hZ5 hS5 hS6
  go_wp2
  refine bodyPost_ret (by simp only [results, Try.results63]; go_simp) rfl ⟨rfl, ?_⟩
  (repeat (first | with_reducible (exact Since.refl _) | with_reducible assumption | with_reducible (refine Since.drew ?_) | with_reducible (refine Since.drewN ?_ _) | with_reducible (refine Since.alloc ?_ _) | (with_reducible (refine Since.setCell ?_ ?_ _); rotate_left; focus (first | (simp; done) | (simp; omega) | omega)) | (with_reducible (refine Since.trans ?_ (by with_reducible assumption)))))
end Go.Proofs.Ytdbenpncnkfliaa

/-
  Layer 13: 'Bend', 'Steps', 'Box', walked.
-/
namespace Go.Proofs.Ytdbenpncnkfliaa
open Go.RowKit
set_option linter.unusedVariables false

def ben (a c b : Int) : Int := if a - 2 * c + b < 0 then -(a - 2 * c + b) else a - 2 * c + b
theorem ben_in {a c b : Int} (ha : Tny a) (hc : Tny c) (hb : Tny b) : 0 ≤ ben a c b ∧ ben a c b ≤ 16777216 := by
  unfold Tny at *; unfold ben; split <;> omega
set_option maxHeartbeats 4000000 in
theorem qu_bend1 (s : Sg) (a : Nat) (A C B : Int) (bs : Nat) (w : World) (hE : ∀ args w, (callFunc a args).run Try.prog w = .ok (.enter a args) w)
    (hs : SegAt w bs s)
    (hA : ∀ w, Calls Try.prog a #[Pt s.ax s.ay] w fun e w2 => e = .returned (.int .i64 A) ∧ Since w w2)
    (hC : ∀ w, Calls Try.prog a #[Pt s.cx s.cy] w fun e w2 => e = .returned (.int .i64 C) ∧ Since w w2)
    (hB : ∀ w, Calls Try.prog a #[Pt s.bx s.bz] w fun e w2 => e = .returned (.int .i64 B) ∧ Since w w2)
    (tA : Tny A) (tB : Tny B) (tC : Tny C) :
    Calls Try.prog 70 #[.func (.func a) #[] #[], .pointer (some ⟨bs, 0, none⟩)] w
      fun e w' => e = .returned (.int .i64 (ben A C B)) ∧ Since w w' := by
  obtain ⟨ax, ay, cx, cy, bx, bz, kk⟩ := s
  simp only at hA hC hB
  obtain ⟨s1, s2, s3, s4, s5, s6, s7, s8⟩ := hs
  simp only at s1 s2 s3 s4 s5 s6 s7 ⊢
  unfold Pt at hA hB hC
  have HA := Lib.hid hA
  have HB := Lib.hid hB
  have HC := Lib.hid hC
  clear hA hB hC
  unfold Tny at *
  unfold ben
  have w1 : IntKind.i64.wrap (2 * C) = 2 * C := IntWalk.i64_in _ (by omega)
  have w2 : IntKind.i64.wrap (A - 2 * C) = A - 2 * C := IntWalk.i64_in _ (by omega)
  have w3 : IntKind.i64.wrap (A - 2 * C + B) = A - 2 * C + B := IntWalk.i64_in _ (by omega)
  have w4 : IntKind.i64.wrap (-(A - 2 * C + B)) = -(A - 2 * C + B) := IntWalk.i64_in _ (by omega)
  generalize hD : A - 2 * C + B = D at *
  by_cases hD0 : D < 0
  all_goals
    go_enter Try.func70, Try.ntmps70
    go_wp2
    (refine wp_named fun wr1 hwr1 => ?_; go_region_held3 (fun w' => (∀ b o, b < wr1.heap.size → w'.cell? ⟨b, o, none⟩ = wr1.cell? ⟨b, o, none⟩) ∧ (∀ b o, b < wr1.heap.size → w'.frozen? ⟨b, o, none⟩ = wr1.frozen? ⟨b, o, none⟩) ∧ (∀ k, k < wr1.heap.size → k < w'.heap.size) ∧ Below wr1.heap.size wr1 w') ((subst hwr1; (repeat (with_reducible (refine since_put ?_ ?_ _); rotate_left; focus (first | (simp; done) | (simp; omega) | omega))); first | assumption | (refine since_step (by assumption) ?_; first | assumption | ((repeat (first | with_reducible (exact Since.refl _) | with_reducible assumption | with_reducible (refine Since.drew ?_) | with_reducible (refine Since.drewN ?_ _) | with_reducible (refine Since.alloc ?_ _) | (with_reducible (refine Since.setCell ?_ ?_ _); rotate_left; focus (first | (simp; done) | (simp; omega) | omega)))); done)) | (refine since_step (Since.refl _) ?_; first | assumption | ((repeat (first | with_reducible (exact Since.refl _) | with_reducible assumption | with_reducible (refine Since.drew ?_) | with_reducible (refine Since.drewN ?_ _) | with_reducible (refine Since.alloc ?_ _) | (with_reducible (refine Since.setCell ?_ ?_ _); rotate_left; focus (first | (simp; done) | (simp; omega) | omega)) | (with_reducible (refine Since.trans ?_ (by with_reducible assumption))))); done)))) (first | (refine (Calls.mono (HA.out _) ?_); rintro e w1 ⟨rfl, hS⟩; have hZ := hS.below.size; (try simp at hZ)) | (refine (Calls.mono (HC.out _) ?_); rintro e w1 ⟨rfl, hS⟩; have hZ := hS.below.size; (try simp at hZ)) | (refine (Calls.mono (HB.out _) ?_); rintro e w1 ⟨rfl, hS⟩; have hZ := hS.below.size; (try simp at hZ))); all_goals (rename_i hHeld; have hR1 : Since wr1 _ := hHeld; obtain ⟨hcR1, hfR1, hzR1, hbR1⟩ := hHeld; subst hwr1))
    all_goals go_wp2
    all_goals go_ret
    all_goals exact ⟨by first | (simp; omega) | simp, by (repeat (first | with_reducible (exact Since.refl _) | with_reducible assumption | with_reducible (refine Since.drew ?_) | with_reducible (refine Since.drewN ?_ _) | with_reducible (refine Since.alloc ?_ _) | (with_reducible (refine Since.setCell ?_ ?_ _); rotate_left; focus (first | (simp; done) | (simp; omega) | omega)) | (with_reducible (refine Since.trans ?_ (by with_reducible assumption)))))⟩

theorem enters68 : ∀ args w, (callFunc 70 args).run Try.prog w = .ok (.enter 70 args) w := enters_of Try.func70 (by kernel_rfl) rfl
/-- How far a piece bends. -/
def bendI (s : Sg) : Int := if s.k && inR s then max (ben s.ax s.cx s.bx) (ben s.ay s.cy s.bz) else 0
theorem inR_tny {s : Sg} (h : (s.k && inR s) = true) : (Tny s.ax ∧ Tny s.ay) ∧ (Tny s.bx ∧ Tny s.bz) ∧ (Tny s.cx ∧ Tny s.cy) := by
  obtain ⟨h1, h2⟩ := Bool.and_eq_true_iff.1 h
  unfold inR at h2
  simp only [Bool.and_eq_true, Bool.or_eq_true, Bool.not_eq_true'] at h2
  obtain ⟨⟨r1, r2⟩, r3⟩ := h2
  exact ⟨tny_of r1, tny_of r2, by rcases r3 with r | r; (rw [h1] at r; cases r); exact tny_of r⟩
theorem bend_in (s : Sg) : 0 ≤ bendI s ∧ bendI s ≤ 16777216 := by
  unfold bendI
  split
  · rename_i h
    obtain ⟨⟨a1, a2⟩, ⟨b1, b2⟩, c1, c2⟩ := inR_tny h
    have := ben_in a1 c1 b1
    have := ben_in a2 c2 b2
    omega
  · omega
set_option maxHeartbeats 8000000 in
theorem qu_bend (s : Sg) (hs : s.wf) (w : World) :
    Calls Try.prog 65 #[s.v] w fun e w' => e = .returned (.int .i64 (bendI s)) ∧ Since w w' := by
  have hc := fun w => qu_inRange s hs w
  have hmf : ∀ (fn : Fn) (first cap : Array Value) (w : World), (Instr.makeFunc fn first cap).run Try.prog w = .ok (.func fn first cap) w := fun _ _ _ _ => rfl
  cases hk : s.k with
  | false =>
    have hb : bendI s = 0 := by unfold bendI; rw [hk]; rfl
    rw [hb]
    unfold Sg.v
    rw [hk]
    clear hb hc hs
    go_enter Try.func65, Try.ntmps65
    go_wp2
    go_ret
    exact ⟨rfl, by (repeat (first | with_reducible (exact Since.refl _) | with_reducible assumption | with_reducible (refine Since.drew ?_) | with_reducible (refine Since.drewN ?_ _) | with_reducible (refine Since.alloc ?_ _) | (with_reducible (refine Since.setCell ?_ ?_ _); rotate_left; focus (first | (simp; done) | (simp; omega) | omega)) | (with_reducible (refine Since.trans ?_ (by with_reducible assumption)))))⟩
  | true =>
    cases hr : inR s with
    | false =>
      have hb : bendI s = 0 := by unfold bendI; rw [hk, hr]; rfl
      rw [hb]
      rw [hr] at hc
      unfold Sg.v at *
      rw [hk] at hc ⊢
      have HC := Lib.hid hc
      clear hb hc hs hr
      go_enter Try.func65, Try.ntmps65
      go_wp2_with (go_at_call 69; (with_reducible refine (HC.out _).mono ?_); rintro e w1 ⟨rfl, hS1⟩; have hS : Since w w1 := (by (repeat (first | with_reducible (exact Since.refl _) | with_reducible assumption | with_reducible (refine Since.drew ?_) | with_reducible (refine Since.drewN ?_ _) | with_reducible (refine Since.alloc ?_ _) | (with_reducible (refine Since.setCell ?_ ?_ _); rotate_left; focus (first | (simp; done) | (simp; omega) | omega)) | (with_reducible (refine Since.trans ?_ (by with_reducible assumption)))))))
      go_ret
      exact ⟨rfl, by (repeat (first | with_reducible (exact Since.refl _) | with_reducible assumption | with_reducible (refine Since.drew ?_) | with_reducible (refine Since.drewN ?_ _) | with_reducible (refine Since.alloc ?_ _) | (with_reducible (refine Since.setCell ?_ ?_ _); rotate_left; focus (first | (simp; done) | (simp; omega) | omega)) | (with_reducible (refine Since.trans ?_ (by with_reducible assumption)))))⟩
    | true =>
      have hkr : (s.k && inR s) = true := by rw [hk, hr]; rfl
      have hb : bendI s = max (ben s.ax s.cx s.bx) (ben s.ay s.cy s.bz) := by unfold bendI; rw [if_pos hkr]
      obtain ⟨⟨a1, a2⟩, ⟨b1, b2⟩, c1, c2⟩ := inR_tny hkr
      rw [hb]
      rw [hr] at hc
      have hF := fun (bs : Nat) (w : World) (q1 : SegAt w bs s) =>
        qu_both 70 #[.pointer (some ⟨bs, 0, none⟩)] _ _ w enters68
          (fun w1 hS => qu_bend1 s 72 s.ax s.cx s.bx bs w1 enters71 (q1.since hS) (fun w => qu_axisX _ _ w) (fun w => qu_axisX _ _ w) (fun w => qu_axisX _ _ w) a1 b1 c1)
          (fun w1 hS => qu_bend1 s 73 s.ay s.cy s.bz bs w1 enters72 (q1.since hS) (fun w => qu_axisY _ _ w) (fun w => qu_axisY _ _ w) (fun w => qu_axisY _ _ w) a2 b2 c2)
      generalize ben s.ax s.cx s.bx = X at *
      generalize ben s.ay s.cy s.bz = Y at *
      have hN := fun w b hb t => seg_new w b hb s t
      unfold Sg.v Pt at *
      rw [hk] at hc ⊢
      simp only [hk] at hN
      have HC := Lib.hid hc
      have HF := Lib.hid hF
      have HN := Lib.hid hN
      clear hb hc hs hr hkr hF hN a1 a2 b1 b2 c1 c2
      go_enter Try.func65, Try.ntmps65
      go_wp2_with (first | (go_at_call 69; (with_reducible refine (HC.out _).mono ?_); rintro e w1 ⟨rfl, hS1⟩; have hX1 := (HN.out w _ rfl _).since hS1; have hS : Since w w1 := (by (repeat (first | with_reducible (exact Since.refl _) | with_reducible assumption | with_reducible (refine Since.drew ?_) | with_reducible (refine Since.drewN ?_ _) | with_reducible (refine Since.alloc ?_ _) | (with_reducible (refine Since.setCell ?_ ?_ _); rotate_left; focus (first | (simp; done) | (simp; omega) | omega)) | (with_reducible (refine Since.trans ?_ (by with_reducible assumption)))))); clear hS1) | (go_at_call 67; (with_reducible refine (HF.out _ _ hX1).mono ?_); rintro e w2 ⟨rfl, hS2⟩; have hS3 : Since w w2 := (by (repeat (first | with_reducible (exact Since.refl _) | with_reducible assumption | with_reducible (refine Since.drew ?_) | with_reducible (refine Since.drewN ?_ _) | with_reducible (refine Since.alloc ?_ _) | (with_reducible (refine Since.setCell ?_ ?_ _); rotate_left; focus (first | (simp; done) | (simp; omega) | omega)) | (with_reducible (refine Since.trans ?_ (by with_reducible assumption)))))); clear hS2 hS hX1))
      all_goals go_ret
      all_goals exact ⟨by first | rfl | (simp; omega), by (repeat (first | with_reducible (exact Since.refl _) | with_reducible assumption | with_reducible (refine Since.drew ?_) | with_reducible (refine Since.drewN ?_ _) | with_reducible (refine Since.alloc ?_ _) | (with_reducible (refine Since.setCell ?_ ?_ _); rotate_left; focus (first | (simp; done) | (simp; omega) | omega)) | (with_reducible (refine Since.trans ?_ (by with_reducible assumption)))))⟩
end Go.Proofs.Ytdbenpncnkfliaa

/-
  Layer 13: 'Steps', walked.
-/
namespace Go.Proofs.Ytdbenpncnkfliaa
open Go.RowKit
set_option linter.unusedVariables false

/-- How often a piece is halved that bends so. -/
def stepsN (b : Int) : Nat := if b ≤ 64 then 0 else if b ≤ 256 then 1 else if b ≤ 1024 then 2 else if b ≤ 4096 then 3 else if b ≤ 16384 then 4 else if b ≤ 65536 then 5 else if b ≤ 262144 then 6 else if b ≤ 1048576 then 7 else if b ≤ 4194304 then 8 else 9
theorem steps_le (b : Int) : stepsN b ≤ 9 := by unfold stepsN; repeat' split
                                                all_goals omega
set_option maxHeartbeats 8000000 in
theorem steps_iff {b z : Int} (hb : b ≤ 16777216) (h0 : 0 ≤ z) (h9 : z ≤ 9) : (64 * 2 ^ (2 * z).toNat < b ↔ z < stepsN b) ∧ 64 ≤ (64 : Int) * 2 ^ (2 * z).toNat ∧ (64 : Int) * 2 ^ (2 * z).toNat ≤ 16777216 := by
  have hz : z = 0 ∨ z = 1 ∨ z = 2 ∨ z = 3 ∨ z = 4 ∨ z = 5 ∨ z = 6 ∨ z = 7 ∨ z = 8 ∨ z = 9 := by omega
  unfold stepsN
  rcases hz with rfl | rfl | rfl | rfl | rfl | rfl | rfl | rfl | rfl | rfl <;> refine ⟨?_, by decide, by decide⟩
  all_goals
    simp only [Int.reduceMul, Int.reduceToNat, Int.reducePow]
    (repeat' split) <;> omega

set_option maxHeartbeats 8000000 in
theorem qu_steps (s : Sg) (hs : s.wf) (w : World) :
    Calls Try.prog 62 #[s.v] w fun e w' => e = .returned (.int .i64 (stepsN (bendI s) : Nat)) ∧ Since w w' := by
  have hc := fun w => qu_bend s hs w
  have hb := bend_in s
  have h9 := steps_le (bendI s)
  generalize bendI s = b at *
  have hi := fun z h1 h2 => steps_iff (b := b) (z := z) hb.2 h1 h2
  unfold Sg.v at *
  have HC := Lib.hid hc
  have HI := Lib.hid hi
  generalize stepsN b = N at *
  clear hc hs hi
  go_enter Try.func62, Try.ntmps62
  go_wp2_with (go_at_call 65; (with_reducible refine (HC.out _).mono ?_); rintro e w1 ⟨rfl, hS1⟩; have hS : Since w w1 := (by (repeat (first | with_reducible (exact Since.refl _) | with_reducible assumption | with_reducible (refine Since.drew ?_) | with_reducible (refine Since.drewN ?_ _) | with_reducible (refine Since.alloc ?_ _) | (with_reducible (refine Since.setCell ?_ ?_ _); rotate_left; focus (first | (simp; done) | (simp; omega) | omega)) | (with_reducible (refine Since.trans ?_ (by with_reducible assumption)))))); clear hS1 HC)
  go_loop [4] (fun y => ∃ z : Int, 0 ≤ z ∧ z ≤ N ∧ y = .int .i64 z) (fun y => 10 - (intOf y).toNat)
  case atStart => exact ⟨0, by omega, by omega, rfl⟩
  case round =>
    obtain ⟨z, h0, h1, rfl⟩ := hrel
    obtain ⟨i1, i2, i3⟩ := HI.out z h0 (by omega)
    have w1 : IntKind.i64.wrap (2 * z) = 2 * z := IntWalk.i64_in _ (by omega)
    have w2 : IntKind.i64.wrap (z + 1) = z + 1 := IntWalk.i64_in _ (by omega)
    have hm : min (2 * z).toNat 64 = (2 * z).toNat := by omega
    have hn0 : ¬ 2 * z < 0 := by omega
    generalize hq : (2 : Int) ^ (2 * z).toNat = q at *
    have w3 : IntKind.i64.wrap (64 * q) = 64 * q := IntWalk.i64_in _ (by omega)
    clear HI
    by_cases hL : 64 * q < b
    · have hz := i1.1 hL
      go_wp2
      go_round
      case rel => exact ⟨z + 1, by omega, by omega, rfl⟩
      case measure => simp [intOf]; omega
    · have hz : z = N := by have := mt i1.2 hL; omega
      have HZ := Lib.hid hz
      clear hz i1
      go_wp2
      go_ret
      exact ⟨by rw [HZ.out]; rfl, hS⟩
end Go.Proofs.Ytdbenpncnkfliaa

/-
  The law's last step for whatever parameters: what came in reads as it did (the kit's 'Trod_stays'); slices of whole numbers that came in, opened.
-/
namespace Go.Proofs.Ytdbenpncnkfliaa
open Go.RowKit Go.ChangeShapes Go.WideShapes

section
variable {H : Type} {enc : TypeId × Value → H} {P : Program}
theorem all_stays (hl : laidOutB P = true) {W W' : World} {sp : Nat → Bool} : ∀ {ts : List TypeId} {vs : List Value} {ds : List (DataW H)} {ps : List MemPlace}, (∀ t ∈ ts, P.readableRec t = true ∧ t < P.types.size) →
    DataW.TrodAll enc P W 0 (fun _ => true) true ts vs ds ps → (∀ p ∈ ps, W.sameAt W' p) → (∀ p ∈ ps, sp p.block = true) → DataW.TrodAll enc P W' 0 sp true ts vs ds ps
  | [], [], [], _, _, h, _, _ => h
  | [], _ :: _, _, _, _, h, _, _ => by cases h
  | [], [], _ :: _, _, _, h, _, _ => by cases h
  | _ :: _, [], _, _, _, h, _, _ => by cases h
  | _ :: _, _ :: _, [], _, _, h, _, _ => by cases h
  | t :: ts, v :: vs, d :: ds, ps, ht, h, hs, hp => by
    obtain ⟨p, q, h1, h2, rfl⟩ := h
    exact ⟨p, q, WideElems.Trod_stays hl (ht t (by simp)).1 (ht t (by simp)).2 h1 (fun x hx => hs x (by simp [hx])) (fun x hx => hp x (by simp [hx])),
      all_stays hl (fun t' h' => ht t' (by simp [h'])) h2 (fun x hx => hs x (by simp [hx])) (fun x hx => hp x (by simp [hx])), rfl⟩
/-- The law's last step: it answers true, and all that was there is as it was. -/
theorem post_true {f : Func} {s : ChangeSpec} {apart fresh handsOn again : Bool} {W W' : World} {args : Array Value} {ds : List (DataW H)} {before : List MemPlace} {tb : TypeId}
    (hl : laidOutB P = true) (hts : f.params.toList.all (fun t => P.readableRec t && decide (t < P.types.size)) = true)
    (hW : DataW.Whole enc P f.params.toList s.vars apart W args.toList ds [] before) (hv : s.vars = []) (hr : f.resultTypes = #[tb]) (hb : P.underlying tb = some .bool)
    (h1 : (s.fn H (ds ++ [])).results = [.lit (.bool true)]) (h2 : (s.fn H (ds ++ [])).args = ds) (h3 : (s.fn H (ds ++ [])).vars = []) (hS : Since W W') :
    s.post enc P f apart fresh handsOn again W args (.bool true) W' := by
  have hW0 := hW
  obtain ⟨p, q, hA, hV, rfl, _, _⟩ := hW
  rw [hv] at hV
  obtain ⟨_, rfl⟩ := trodVars_none hV
  simp only [List.append_nil] at hW0
  have hlt : ∀ x ∈ p, x.block < W.heap.size := fun x hx => hW0.lt x hx
  have hq : ∀ t ∈ f.params.toList, P.readableRec t = true ∧ t < P.types.size := fun t ht => by
    have := List.all_eq_true.1 hts t ht
    simpa using this
  refine post_since (pa := p) (pv := []) hW0 (fun _ _ _ => ?_) (fun sp hsp => ?_) (fun sp hsp => ?_) (by simp) hS ?_
  · rw [h1, hr]
    exact trodAll_cons_mk (shut_bool hb _) trodAll_mk0
  · rw [h2]
    exact all_stays hl hq hA (fun x hx => hS.below.same (hlt x hx)) (fun x hx => hsp x hx)
  · rw [h3, hv]; rfl
  · exact ok_one hr rfl (okWide_bool_mk hb _)
end

section
variable {H : Type} {enc : TypeId × Value → H} {P : Program} {W : World}
/-- A slice of whole numbers that came in. -/
theorem open_rd {t e : TypeId} {k : IntKind} {r : Reach} {b0 : Nat} {v : Value} {d : DataW H} {ps : List MemPlace} (ht : P.underlying t = some (.slice e)) (he : P.underlying e = some (.int k)) (hc : P.cellsOf e = 1)
    (hval : Value.okWide P W r b0 t v) (h : DataW.Trod enc P W 0 (fun _ => true) true t v d ps) (hlt : ∀ x ∈ ps, x.block < W.heap.size) :
    ∃ A n c f, v = .slice A n c ∧ n ≤ c ∧ c ≤ maxLen ∧ Rd W W.heap.size A n (IntRow k f) ∧ (∀ j, j < n → (Lit.int k (f j)).wf = true) ∧ (c = 0 ∨ ∃ el sp, d = .slice el sp ∧ el.length + sp.length = c) := by
  obtain ⟨A, n, c, rfl⟩ := okWide_slice ht hval
  obtain ⟨fuel, hf⟩ := h
  rcases open_ints ht he hc hf with ⟨hcs, hx⟩ | ⟨a, len, cap, zs, hcs, _, hl, hm, hz, hx, hcell, hwz⟩
  · simp [Value.cells] at hcs
    obtain ⟨rfl, rfl, rfl⟩ := hcs
    exact ⟨none, 0, 0, fun _ => 0, rfl, Nat.le_refl _, Nat.zero_le _, Rd.zero, fun j hj => absurd hj (by omega), .inl rfl⟩
  · simp [Value.cells] at hcs
    obtain ⟨rfl, rfl, rfl⟩ := hcs
    simp only [if_true] at hz
    simp only [Prod.mk.injEq] at hx
    obtain ⟨rfl, rfl⟩ := hx
    refine ⟨some a, n, c, fun j => zs.getD j 0, rfl, hl, hm, fun hn => ?_, fun j hj => ?_, .inr ⟨_, _, rfl, ?_⟩⟩
    · have hspot : a.spot = none := by
        have h0 := hcell 0 (by omega)
        cases hsp : a.spot with
        | none => rfl
        | some s =>
          have e : (a.add 0).spot = some s := by unfold Addr.add; split <;> simp_all
          simp only [World.cell?] at h0
          split at h0
          · simp [e] at h0
          · cases h0
      obtain ⟨b, o, s⟩ := a
      simp only at hspot
      subst hspot
      refine ⟨b, o, rfl, hlt (.cell b (o + 0)) (MemPlace.mem_row.2 ⟨0, by omega, rfl⟩), fun j hj => ?_⟩
      have := hcell j (by omega)
      rw [← add_plain]
      exact this
    · have hj' : j < zs.length := by omega
      have : zs.getD j 0 = zs[j] := by simp [List.getD, hj']
      show (Lit.int k (zs.getD j 0)).wf = true
      rw [this]
      exact hwz _ (List.getElem_mem hj')
    · simp [lits]; omega
theorem wf_u8 {x : Int} (h : (Lit.int .u8 x).wf = true) : 0 ≤ x ∧ x ≤ 255 := by
  simpa [Lit.wf, IntKind.min, IntKind.max, IntKind.signed, IntKind.bits] using h
theorem wf_i64 {a : Int} (h : (Lit.int .i64 a).wf = true) : In64 a := by
  have h : -9223372036854775808 ≤ a ∧ a ≤ 9223372036854775807 := by simpa [Lit.wf, IntKind.min, IntKind.max, IntKind.signed, IntKind.bits] using h
  unfold In64; omega
end
end Go.Proofs.Ytdbenpncnkfliaa

/-
  A value of several cells that came in (a struct, an array, one in the other), opened cell by cell.
-/
namespace Go.Proofs.Ytdbenpncnkfliaa
open Go.RowKit Go.ChangeShapes Go.WideShapes

/-- The type of a type's cell j: of one cell itself. -/
def leafAt (P : Program) : Nat → TypeId → Nat → Option TypeId
  | 0, _, _ => none
  | n + 1, t, j => match P.underlying t with
    | some (.struct fs) => (fs.toList.find? (fun f => decide (f.offset ≤ j ∧ j < f.offset + P.cellsOf f.type))).bind fun f => leafAt P n f.type (j - f.offset)
    | some (.array k e) => if 0 < P.cellsOf e ∧ j / P.cellsOf e < k then leafAt P n e (j % P.cellsOf e) else none
    | some .bool | some (.int _) | some .string | some (.slice _) => if j = 0 then some t else none
    | _ => none
section
variable {H : Type} {enc : TypeId × Value → H} {P : Program} {W : World} {base : Nat} {sp : Nat → Bool} {held : Bool}
theorem one_cell {t : TypeId} {m : Nat} {cs : List Value} {x : DataW H × List MemPlace} (h : DataW.trod enc P W base sp held m t cs = some x)
    (hk : P.underlying t = some .bool ∨ (∃ k, P.underlying t = some (.int k)) ∨ P.underlying t = some .string ∨ (∃ e, P.underlying t = some (.slice e))) : ∃ v, cs = [v] := by
  cases m with
  | zero => simp [DataW.trod] at h
  | succ m =>
    unfold DataW.trod at h
    rcases hk with hk | ⟨k, hk⟩ | hk | ⟨e, hk⟩ <;> rw [hk] at h <;> (split at h <;> first | (simp_all; done) | exact ⟨_, rfl⟩)
theorem leaf_at : ∀ (n : Nat) (t t' : TypeId) (j : Nat), leafAt P n t j = some t' → ∀ (m : Nat) (cs : List Value) (x : DataW H × List MemPlace), DataW.trod enc P W base sp held m t cs = some x →
    ∃ v m' y, cs[j]? = some v ∧ DataW.trod enc P W base sp held m' t' [v] = some y ∧ ∀ p ∈ y.2, p ∈ x.2 := by
  intro n
  induction n with
  | zero => intro t t' j h; simp [leafAt] at h
  | succ n ih =>
    intro t t' j h m cs x hx
    unfold leafAt at h
    split at h
    · rename_i fs hu
      rw [Option.bind_eq_some_iff] at h
      obtain ⟨f, hf, hl⟩ := h
      have hmem := List.mem_of_find?_eq_some hf
      have hp := List.find?_some hf
      simp only [decide_eq_true_eq] at hp
      obtain ⟨i, hi⟩ := List.getElem?_of_mem hmem
      obtain ⟨xs, m1, rfl, rfl, hlen, hxs, hall⟩ := DataW.trod_struct hu hx
      have hi' : fs[i]? = some f := by simpa using hi
      have hget := hall i f hi'
      have hil : i < xs.length := by
        rw [hxs]
        have := (List.getElem?_eq_some_iff.1 hi).1
        simpa using this
      rw [List.getElem?_eq_getElem hil] at hget
      obtain ⟨v, m', y, h1, h2, h3⟩ := ih _ _ _ hl _ _ _ hget
      refine ⟨v, m', y, ?_, h2, fun p hpm => ?_⟩
      · rw [List.getElem?_take, if_pos (by omega), List.getElem?_drop, show f.offset + (j - f.offset) = j by omega] at h1
        exact h1
      · exact List.mem_flatMap.2 ⟨xs[i], List.getElem_mem hil, h3 p hpm⟩
    · rename_i k e hu
      split at h
      · rename_i hc
        obtain ⟨xs, m1, rfl, rfl, hlen, hxs, hall⟩ := DataW.trod_array hu hx
        have hget := hall (j / P.cellsOf e) hc.2
        have hil : j / P.cellsOf e < xs.length := by omega
        rw [List.getElem?_eq_getElem hil] at hget
        obtain ⟨v, m', y, h1, h2, h3⟩ := ih _ _ _ h _ _ _ hget
        refine ⟨v, m', y, ?_, h2, fun p hpm => ?_⟩
        · rw [List.getElem?_take, if_pos (Nat.mod_lt _ hc.1), List.getElem?_drop, show j / P.cellsOf e * P.cellsOf e + j % P.cellsOf e = j from Nat.div_add_mod' j _] at h1
          exact h1
        · exact List.mem_flatMap.2 ⟨xs[j / P.cellsOf e], List.getElem_mem hil, h3 p hpm⟩
      · cases h
    all_goals first
      | (rename_i hu; split at h
         · rename_i h0; subst h0; injection h with h; subst h
           obtain ⟨v, rfl⟩ := one_cell hx (by first | exact .inl hu | exact .inr (.inl ⟨_, hu⟩) | exact .inr (.inr (.inl hu)) | exact .inr (.inr (.inr ⟨_, hu⟩)))
           exact ⟨v, m, x, rfl, hx, fun _ hp => hp⟩
         · cases h)
      | cases h
theorem leaf_int {n : Nat} {t t' : TypeId} {j : Nat} {k : IntKind} (hl : leafAt P n t j = some t') (hk : P.underlying t' = some (.int k)) {v : Value} {d : DataW H} {ps : List MemPlace} (h : DataW.Trod enc P W base sp held t v d ps) :
    ∃ a, v.cells[j]? = some (.int k a) ∧ (Lit.int k a).wf = true := by
  obtain ⟨m, hm⟩ := h
  obtain ⟨u, m', y, h1, h2, _⟩ := leaf_at n t t' j hl m _ _ hm
  obtain ⟨a, e, _, hw⟩ := DataW.trod_int hk h2
  injection e with e
  subst e
  exact ⟨a, by simpa using h1, hw⟩
theorem leaf_bool {n : Nat} {t t' : TypeId} {j : Nat} (hl : leafAt P n t j = some t') (hk : P.underlying t' = some .bool) {v : Value} {d : DataW H} {ps : List MemPlace} (h : DataW.Trod enc P W base sp held t v d ps) :
    ∃ a, v.cells[j]? = some (.bool a) := by
  obtain ⟨m, hm⟩ := h
  obtain ⟨u, m', y, h1, h2, _⟩ := leaf_at n t t' j hl m _ _ hm
  obtain ⟨a, e, _⟩ := DataW.trod_bool hk h2
  injection e with e
  subst e
  exact ⟨a, by simpa using h1⟩
theorem okWide_agg {r : Reach} {b0 : Nat} {t : TypeId} {v : Value} (hu : (match P.underlying t with | some (.struct _) | some (.array _ _) => true | _ => false) = true) (h : Value.okWide P W r b0 t v) : ∃ cs, v = .agg cs ∧ cs.size = P.cellsOf t := by
  unfold Value.okWide at h
  split at h
  · obtain ⟨cs, h1, h2, _⟩ := h; exact ⟨cs, h1, h2⟩
  · obtain ⟨cs, h1, h2, _⟩ := h; exact ⟨cs, h1, h2⟩
  · rename_i h1 h2
    split at hu
    · rename_i e; exact absurd e (h1 _)
    · rename_i e; exact absurd e (h2 _ _)
    · cases hu
theorem agg_cells {cs : Array Value} {l : List Value} (hs : cs.size = l.length) (h : ∀ i, i < l.length → cs[i]? = l[i]?) : cs = l.toArray := by
  apply Array.ext
  · simpa using hs
  · intro i h1 h2
    have := h i (by omega)
    rw [Array.getElem?_eq_getElem h1] at this
    simp only [List.size_toArray] at h2
    rw [List.getElem?_eq_getElem h2] at this
    simpa using this
end
end Go.Proofs.Ytdbenpncnkfliaa
