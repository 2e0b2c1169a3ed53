/-
  Texts of this seat, put together: each with its own head.
-/
import Derived.Test.YtcfghkphkmoikaaGreatMqA
import Derived.Test.YtcfghkphkmoikaaGreatMqW

/-
  Layer 15: 'On', walked.
-/
namespace Go.Proofs.YtcfghkphkmoikaaGreat
set_option maxRecDepth 100000
open Go.RowKit
set_option linter.unusedVariables false

def onB (px py : Int) (l : Ln) : Bool := (goodB l.ax l.ay && goodB l.bx l.bz && goodB px py) && (turnI l.ax l.ay l.bx l.bz px py == 0) && btw l.ax px l.bx && btw l.ay py l.bz
set_option maxHeartbeats 8000000 in
theorem on_of (px py : Int) (l : Ln) (T E : Int) (e0 t0 b1 b2 : Bool) (w : World) (he : (E == 0) = e0) (ht : (T == 0) = t0) (h1 : btw l.ax px l.bx = b1) (h2 : btw l.ay py l.bz = b2)
    (hT : ∀ w, Calls Tryz.prog 156 #[Pt l.ax l.ay, Pt l.bx l.bz, Pt px py] w fun e w' => e = .returned (.tuple #[.int .i64 T, .int .i64 E]) ∧ Since w w') :
    Calls Tryz.prog 128 #[Pt px py, l.v] w fun e w' => e = .returned (.bool (e0 && t0 && b1 && b2)) ∧ Since w w' := by
  have hN := fun w b hb t => ln_new w b hb l t
  have c1 := fun w => cr_between l.ax px l.bx w
  have c2 := fun w => cr_between l.ay py l.bz w
  rw [h1] at c1
  rw [h2] at c2
  unfold Pt Ln.v at *
  have HN := Lib.hid hN
  have HT := Lib.hid hT
  have H1 := Lib.hid c1
  have H2 := Lib.hid c2
  clear hN hT c1 c2 h1 h2
  cases e0 <;> cases t0 <;> cases b1
  all_goals
    go_enter Tryz.func128, Tryz.ntmps128
    go_wp2_with (first | (go_at_call 156; (with_reducible refine Calls.mono (HT.out _) ?_); rintro e w1 ⟨rfl, hS1⟩; have hP := ((pt_new w _ rfl px py _).alloc _).since hS1; have hL := (HN.out _ (w.heap.size + 1) (by simp) _).since hS1; have hS : Since w w1 := (by (repeat (first | with_reducible (exact Since.refl _) | with_reducible assumption | with_reducible (refine Since.drew ?_) | with_reducible (refine Since.drewN ?_ _) | with_reducible (refine Since.alloc ?_ _) | (with_reducible (refine Since.setCell ?_ ?_ _); rotate_left; focus (first | (simp; done) | (simp; omega) | omega)) | (with_reducible (refine Since.trans ?_ (by with_reducible assumption)))))); clear hS1; have hPP := hP; obtain ⟨p1, p2, p3⟩ := hPP; have hLL := hL; obtain ⟨l1, l2, l3, l4, l5⟩ := hLL) | (go_at_call 157; (with_reducible refine Calls.mono (H1.out _) ?_); rintro e w2 ⟨rfl, hS2⟩; have hP2 := hP.since hS2; have hL2 := hL.since hS2; have hT2 := hS.trans hS2; clear hS2 hS hP hL p1 p2 p3 l1 l2 l3 l4 l5; obtain ⟨p1, p2, p3⟩ := hP2; obtain ⟨l1, l2, l3, l4, l5⟩ := hL2) | (go_at_call 157; (with_reducible refine Calls.mono (H2.out _) ?_); rintro e w3 ⟨rfl, hS3⟩; have hT3 := hT2.trans hS3))
    go_ret
    exact ⟨by first | rfl | simp, by (repeat (first | with_reducible (exact Since.refl _) | with_reducible assumption | with_reducible (refine Since.drew ?_) | with_reducible (refine Since.drewN ?_ _) | with_reducible (refine Since.alloc ?_ _) | (with_reducible (refine Since.setCell ?_ ?_ _); rotate_left; focus (first | (simp; done) | (simp; omega) | omega)) | (with_reducible (refine Since.trans ?_ (by with_reducible assumption)))))⟩
theorem cr_on (px py : Int) (l : Ln) (h : InP px py) (hl : l.wf) (w : World) :
    Calls Tryz.prog 128 #[Pt px py, l.v] w fun e w' => e = .returned (.bool (onB px py l)) ∧ Since w w' := by
  have hT := fun w => ga_turn l.ax l.ay l.bx l.bz px py hl.1 hl.2 h w
  unfold onB
  cases hg : (goodB l.ax l.ay && goodB l.bx l.bz && goodB px py) with
  | false =>
    rw [hg] at hT
    exact on_of px py l _ _ false true _ _ w rfl rfl rfl rfl hT
  | true =>
    rw [hg] at hT
    exact on_of px py l _ _ true _ _ _ w rfl rfl rfl rfl hT
end Go.Proofs.YtcfghkphkmoikaaGreat

/-
  Layer 15: what two lines have in common, in numbers.
-/
namespace Go.Proofs.YtcfghkphkmoikaaGreat
set_option maxRecDepth 100000
open Go.RowKit
set_option linter.unusedVariables false

/-- What is in common: Kind, X, Y, D. -/
structure Cp where
  (k x y d : Int)
def Cp.v (p : Cp) : Value := .agg #[.int .i64 p.k, .int .i64 (hiW p.x), .int .u64 (loW p.x), .int .i64 (hiW p.y), .int .u64 (loW p.y), .int .i64 p.d]
def cpNone : Cp := ⟨0, 0, 0, 0⟩
def lnG (l : Ln) : Bool := goodB l.ax l.ay && goodB l.bx l.bz
def cC (s t : Ln) : Int := crossI (s.bx - s.ax) (s.bz - s.ay) (t.bx - t.ax) (t.bz - t.ay)
def nC (s t : Ln) : Int := crossI (t.ax - s.ax) (t.ay - s.ay) (t.bx - t.ax) (t.bz - t.ay)
def mC (s t : Ln) : Int := crossI (t.ax - s.ax) (t.ay - s.ay) (s.bx - s.ax) (s.bz - s.ay)
def in01 (n m c : Int) : Bool := decide (0 ≤ n) && decide (n ≤ c) && decide (0 ≤ m) && decide (m ≤ c)
def crossAt (s : Ln) (n c : Int) : Cp := ⟨1, s.ax * c + (s.bx - s.ax) * n, s.ay * c + (s.bz - s.ay) * n, c⟩
def crossPos (s : Ln) (n m c : Int) : Cp := if in01 n m c then crossAt s n c else cpNone
/-- Lines that aren't parallel. -/
def crossCp (s t : Ln) : Cp := if cC s t < 0 then crossPos s (-nC s t) (-mC s t) (-cC s t) else crossPos s (nC s t) (mC s t) (cC s t)
/-- The ends that lie on both. -/
def ends (s t : Ln) : List (Int × Int) :=
  (if onB s.ax s.ay t then [(s.ax, s.ay)] else []) ++ (if onB s.bx s.bz t then [(s.bx, s.bz)] else []) ++ (if onB t.ax t.ay s then [(t.ax, t.ay)] else []) ++ (if onB t.bx t.bz s then [(t.bx, t.bz)] else [])
def touchOf : List (Int × Int) → Cp
  | [] => cpNone
  | e :: r => if r.all (fun x => x == e) then ⟨1, e.1, e.2, 1⟩ else ⟨2, 0, 0, 0⟩
def aprtL (s t : Ln) : Bool := aprt s.ax s.bx t.ax t.bx || aprt s.ay s.bz t.ay t.bz
def meetG (s t : Ln) : Cp := if aprtL s t then cpNone else if cC s t = 0 then touchOf (ends s t) else crossCp s t
def meetCp (s t : Ln) : Cp := if lnG s && lnG t then meetG s t else cpNone
def meetE (s t : Ln) : Int := if lnG s && lnG t then 0 else 6
def rev (s : Ln) : Ln := ⟨s.bx, s.bz, s.ax, s.ay⟩
def mvL (s : Ln) (x y : Int) : Ln := ⟨s.ax + x, s.ay + y, s.bx + x, s.bz + y⟩

theorem in01_comm (n m c : Int) : in01 n m c = in01 m n c := by
  unfold in01
  cases decide (0 ≤ n) <;> cases decide (n ≤ c) <;> cases decide (0 ≤ m) <;> cases decide (m ≤ c) <;> rfl
theorem in01_back (n m c : Int) : in01 (c - n) m c = in01 n m c := by
  unfold in01
  rw [Bool.eq_iff_iff]
  simp only [Bool.and_eq_true, decide_eq_true_eq]
  omega
theorem cC_swap (s t : Ln) : cC t s = -cC s t := by unfold cC crossI; grind
theorem nC_swap (s t : Ln) : nC t s = -mC s t := by unfold nC mC crossI; grind
theorem mC_swap (s t : Ln) : mC t s = -nC s t := by unfold nC mC crossI; grind
theorem atX_swap (s t : Ln) : t.ax * cC s t + (t.bx - t.ax) * mC s t = s.ax * cC s t + (s.bx - s.ax) * nC s t := by unfold nC mC cC crossI; grind
theorem atY_swap (s t : Ln) : t.ay * cC s t + (t.bz - t.ay) * mC s t = s.ay * cC s t + (s.bz - s.ay) * nC s t := by unfold nC mC cC crossI; grind
theorem crossAt_swap (s t : Ln) : crossAt t (mC s t) (cC s t) = crossAt s (nC s t) (cC s t) := by unfold crossAt; rw [atX_swap, atY_swap]
theorem crossAt_neg (s t : Ln) : crossAt t (-mC s t) (-cC s t) = crossAt s (-nC s t) (-cC s t) := by
  unfold crossAt
  have h1 := atX_swap s t
  have h2 := atY_swap s t
  rw [show t.ax * -cC s t + (t.bx - t.ax) * -mC s t = s.ax * -cC s t + (s.bx - s.ax) * -nC s t by grind, show t.ay * -cC s t + (t.bz - t.ay) * -mC s t = s.ay * -cC s t + (s.bz - s.ay) * -nC s t by grind]
theorem cross_swap (s t : Ln) (h : cC s t ≠ 0) : crossCp t s = crossCp s t := by
  unfold crossCp crossPos
  rw [cC_swap s t, nC_swap s t, mC_swap s t]
  by_cases h0 : cC s t < 0
  · rw [if_neg (by omega), if_pos h0, in01_comm, crossAt_neg]
  · rw [if_pos (by omega), if_neg h0, Int.neg_neg, Int.neg_neg, Int.neg_neg, in01_comm, crossAt_swap]
theorem cC_rev (s t : Ln) : cC (rev s) t = -cC s t := by unfold cC crossI rev; grind
theorem nC_rev (s t : Ln) : nC (rev s) t = nC s t - cC s t := by unfold nC cC crossI rev; grind
theorem mC_rev (s t : Ln) : mC (rev s) t = -mC s t := by unfold mC crossI rev; grind
theorem crossAt_rev (s : Ln) (n c : Int) : crossAt (rev s) (c - n) c = crossAt s n c := by unfold crossAt rev; simp only [Cp.mk.injEq]; grind
theorem cross_rev (s t : Ln) (h : cC s t ≠ 0) : crossCp (rev s) t = crossCp s t := by
  unfold crossCp crossPos
  rw [cC_rev s t, nC_rev s t, mC_rev s t]
  by_cases h0 : cC s t < 0
  · rw [if_neg (by omega), if_pos h0, show nC s t - cC s t = -cC s t - -nC s t by omega, in01_back, crossAt_rev]
  · rw [if_pos (by omega), if_neg h0, show -(nC s t - cC s t) = cC s t - nC s t by omega, Int.neg_neg, Int.neg_neg, in01_back, crossAt_rev]
theorem lo2_comm (a b : Int) : lo2 a b = lo2 b a := by unfold lo2; split <;> split <;> omega
theorem hi2_comm (a b : Int) : hi2 a b = hi2 b a := by unfold hi2; split <;> split <;> omega
theorem btw_comm (a n b : Int) : btw a n b = btw b n a := by unfold btw; rw [lo2_comm, hi2_comm]
theorem aprt_swap (a b c d : Int) : aprt a b c d = aprt c d a b := by unfold aprt; rw [Bool.or_comm]
theorem aprt_rev (a b c d : Int) : aprt a b c d = aprt b a c d := by unfold aprt; rw [lo2_comm a b, hi2_comm a b]
theorem aprtL_swap (s t : Ln) : aprtL t s = aprtL s t := by unfold aprtL; rw [aprt_swap, aprt_swap t.ay]
theorem aprtL_rev (s t : Ln) : aprtL (rev s) t = aprtL s t := by unfold aprtL rev; rw [aprt_rev, aprt_rev s.bz]
theorem lnG_rev (s : Ln) : lnG (rev s) = lnG s := by unfold lnG rev; rw [Bool.and_comm]
theorem sgn_zero (n : Int) : (sgnI n == 0) = decide (n = 0) := by
  unfold sgnI
  by_cases h : n < 0
  · rw [if_pos h]; simp; omega
  · rw [if_neg h]
    by_cases h0 : n = 0 <;> simp [h0]
theorem onB_rev (x y : Int) (s : Ln) : onB x y (rev s) = onB x y s := by
  unfold onB turnI rev
  rw [sgn_zero, sgn_zero, btw_comm, btw_comm s.bz, Bool.and_comm (goodB s.bx s.bz)]
  congr 3
  rw [decide_eq_decide]
  unfold crossI
  constructor <;> intro h <;> grind
theorem mem_ends {s t : Ln} {x : Int × Int} : x ∈ ends s t ↔ (x = (s.ax, s.ay) ∧ onB s.ax s.ay t = true) ∨ (x = (s.bx, s.bz) ∧ onB s.bx s.bz t = true) ∨ (x = (t.ax, t.ay) ∧ onB t.ax t.ay s = true) ∨ (x = (t.bx, t.bz) ∧ onB t.bx t.bz s = true) := by
  unfold ends
  cases onB s.ax s.ay t <;> cases onB s.bx s.bz t <;> cases onB t.ax t.ay s <;> cases onB t.bx t.bz s <;> simp
theorem touch_one {e : Int × Int} {L : List (Int × Int)} (h : e ∈ L) (hall : ∀ x ∈ L, x = e) : touchOf L = ⟨1, e.1, e.2, 1⟩ := by
  cases L with
  | nil => cases h
  | cons a r =>
    obtain rfl := hall a (by simp)
    show (if r.all (fun x => x == a) = true then _ else _) = _
    rw [if_pos (by rw [List.all_eq_true]; intro x hx; rw [hall x (by simp [hx])]; simp)]
theorem touch_two {e f : Int × Int} {L : List (Int × Int)} (h : e ∈ L) (k : f ∈ L) (hne : e ≠ f) : touchOf L = ⟨2, 0, 0, 0⟩ := by
  cases L with
  | nil => cases h
  | cons a r =>
    show (if r.all (fun x => x == a) = true then _ else _) = _
    rw [if_neg]
    intro hh
    rw [List.all_eq_true] at hh
    have hx : ∀ x ∈ a :: r, x = a := fun x hx => by
      rcases List.mem_cons.1 hx with rfl | hx
      · rfl
      · have := hh x hx; simpa using this
    exact hne ((hx e h).trans (hx f k).symm)
theorem touch_same {L L' : List (Int × Int)} (h : ∀ x, x ∈ L ↔ x ∈ L') : touchOf L = touchOf L' := by
  cases L with
  | nil =>
    cases L' with
    | nil => rfl
    | cons a r => have := (h a).2 (by simp); cases this
  | cons a r =>
    have ha := (h a).1 (by simp)
    by_cases hall : ∀ x ∈ a :: r, x = a
    · rw [touch_one (L := a :: r) (by simp) hall, touch_one ha (fun x hx => hall x ((h x).2 hx))]
    · obtain ⟨x, hx⟩ := Classical.not_forall.1 hall
      obtain ⟨hx1, hx2⟩ := Classical.not_imp.1 hx
      rw [touch_two (L := a :: r) hx1 (by simp) hx2, touch_two ((h x).1 hx1) ha hx2]
theorem touch_swap (s t : Ln) : touchOf (ends t s) = touchOf (ends s t) := touch_same fun x => by
  rw [mem_ends, mem_ends]
  constructor
  · rintro (h | h | h | h)
    · exact .inr (.inr (.inl h))
    · exact .inr (.inr (.inr h))
    · exact .inl h
    · exact .inr (.inl h)
  · rintro (h | h | h | h)
    · exact .inr (.inr (.inl h))
    · exact .inr (.inr (.inr h))
    · exact .inl h
    · exact .inr (.inl h)
theorem touch_rev (s t : Ln) : touchOf (ends (rev s) t) = touchOf (ends s t) := touch_same fun x => by
  rw [mem_ends, mem_ends, onB_rev, onB_rev]
  show (x = (s.bx, s.bz) ∧ onB s.bx s.bz t = true) ∨ (x = (s.ax, s.ay) ∧ onB s.ax s.ay t = true) ∨ _ ↔ _
  constructor
  · rintro (h | h | h)
    · exact .inr (.inl h)
    · exact .inl h
    · exact .inr (.inr h)
  · rintro (h | h | h)
    · exact .inr (.inl h)
    · exact .inl h
    · exact .inr (.inr h)
theorem meetG_swap (s t : Ln) : meetG t s = meetG s t := by
  unfold meetG
  rw [aprtL_swap, touch_swap]
  by_cases h : cC s t = 0
  · rw [if_pos h, if_pos (show cC t s = 0 by rw [cC_swap, h]; rfl)]
  · rw [if_neg h, if_neg (show ¬ cC t s = 0 by rw [cC_swap]; omega), cross_swap s t h]
theorem meetG_rev (s t : Ln) : meetG (rev s) t = meetG s t := by
  unfold meetG
  rw [aprtL_rev, touch_rev]
  by_cases h : cC s t = 0
  · rw [if_pos h, if_pos (show cC (rev s) t = 0 by rw [cC_rev, h]; rfl)]
  · rw [if_neg h, if_neg (show ¬ cC (rev s) t = 0 by rw [cC_rev]; omega), cross_rev s t h]
theorem meetCp_swap (s t : Ln) : meetCp t s = meetCp s t := by unfold meetCp; rw [meetG_swap, Bool.and_comm]
theorem meetCp_rev (s t : Ln) : meetCp (rev s) t = meetCp s t := by unfold meetCp; rw [meetG_rev, lnG_rev]
def mvP (p : Cp) (x y : Int) : Cp := ⟨p.k, p.x + x * p.d, p.y + y * p.d, p.d⟩
section
variable (s t : Ln) (x y : Int)
theorem cC_mv : cC (mvL s x y) (mvL t x y) = cC s t := by unfold cC crossI mvL; grind
theorem nC_mv : nC (mvL s x y) (mvL t x y) = nC s t := by unfold nC crossI mvL; grind
theorem mC_mv : mC (mvL s x y) (mvL t x y) = mC s t := by unfold mC crossI mvL; grind
theorem crossAt_mv (n c : Int) : crossAt (mvL s x y) n c = mvP (crossAt s n c) x y := by unfold crossAt mvL mvP; simp only [Cp.mk.injEq]; grind
theorem crossCp_mv : crossCp (mvL s x y) (mvL t x y) = mvP (crossCp s t) x y := by
  unfold crossCp crossPos
  rw [cC_mv, nC_mv, mC_mv, crossAt_mv, crossAt_mv]
  have h0 : mvP cpNone x y = cpNone := by unfold mvP cpNone; simp
  split <;> split <;> first | rfl | exact h0.symm
theorem lo2_mv (a b d : Int) : lo2 (a + d) (b + d) = lo2 a b + d := by unfold lo2; split <;> split <;> omega
theorem hi2_mv (a b d : Int) : hi2 (a + d) (b + d) = hi2 a b + d := by unfold hi2; split <;> split <;> omega
theorem btw_mv (a n b d : Int) : btw (a + d) (n + d) (b + d) = btw a n b := by
  unfold btw
  rw [lo2_mv, hi2_mv]
  congr 1 <;> rw [decide_eq_decide] <;> omega
theorem aprt_mv (a b c d e : Int) : aprt (a + e) (b + e) (c + e) (d + e) = aprt a b c d := by
  unfold aprt
  rw [lo2_mv, lo2_mv, hi2_mv, hi2_mv]
  congr 1 <;> rw [decide_eq_decide] <;> omega
theorem aprtL_mv : aprtL (mvL s x y) (mvL t x y) = aprtL s t := by unfold aprtL mvL; rw [aprt_mv, aprt_mv]
theorem onB_mv (p q : Int) (h1 : lnG s = true) (h2 : lnG (mvL s x y) = true) (h3 : goodB p q = true) (h4 : goodB (p + x) (q + y) = true) : onB (p + x) (q + y) (mvL s x y) = onB p q s := by
  unfold lnG at h1 h2
  unfold onB
  rw [h1, h2, h3, h4]
  unfold mvL turnI
  simp only
  rw [btw_mv, btw_mv]
  congr 4
  unfold crossI
  grind
theorem touchOf_map (L : List (Int × Int)) : touchOf (L.map fun e => (e.1 + x, e.2 + y)) = mvP (touchOf L) x y := by
  have h2 : mvP ⟨2, 0, 0, 0⟩ x y = ⟨2, 0, 0, 0⟩ := by unfold mvP; simp
  cases L with
  | nil => show cpNone = mvP cpNone x y; unfold mvP cpNone; simp
  | cons a r =>
    by_cases hall : ∀ z ∈ a :: r, z = a
    · rw [touch_one (L := a :: r) (by simp) hall, touch_one (e := (a.1 + x, a.2 + y)) (by simp) (fun z hz => by
        obtain ⟨u, hu, rfl⟩ := List.mem_map.1 hz
        rw [hall u hu])]
      unfold mvP
      simp
    · obtain ⟨z, hz⟩ := Classical.not_forall.1 hall
      obtain ⟨hz1, hz2⟩ := Classical.not_imp.1 hz
      rw [touch_two (L := a :: r) hz1 (by simp) hz2, h2]
      refine touch_two (e := (z.1 + x, z.2 + y)) (f := (a.1 + x, a.2 + y)) (List.mem_map.2 ⟨z, hz1, rfl⟩) (List.mem_map.2 ⟨a, by simp, rfl⟩) (fun h => hz2 ?_)
      injection h with e1 e2
      exact Prod.ext (by omega) (by omega)
theorem ends_mv (h1 : lnG s = true) (h2 : lnG (mvL s x y) = true) (h3 : lnG t = true) (h4 : lnG (mvL t x y) = true) : ends (mvL s x y) (mvL t x y) = (ends s t).map fun e => (e.1 + x, e.2 + y) := by
  have a1 := Bool.and_eq_true_iff.1 h1; have a2 := Bool.and_eq_true_iff.1 h2; have a3 := Bool.and_eq_true_iff.1 h3; have a4 := Bool.and_eq_true_iff.1 h4
  have e1 := onB_mv t x y s.ax s.ay h3 h4 a1.1 a2.1
  have e2 := onB_mv t x y s.bx s.bz h3 h4 a1.2 a2.2
  have e3 := onB_mv s x y t.ax t.ay h1 h2 a3.1 a4.1
  have e4 := onB_mv s x y t.bx t.bz h1 h2 a3.2 a4.2
  unfold ends
  rw [show (mvL s x y).ax = s.ax + x from rfl, show (mvL s x y).ay = s.ay + y from rfl, show (mvL s x y).bx = s.bx + x from rfl, show (mvL s x y).bz = s.bz + y from rfl, show (mvL t x y).ax = t.ax + x from rfl, show (mvL t x y).ay = t.ay + y from rfl, show (mvL t x y).bx = t.bx + x from rfl, show (mvL t x y).bz = t.bz + y from rfl, e1, e2, e3, e4]
  cases onB s.ax s.ay t <;> cases onB s.bx s.bz t <;> cases onB t.ax t.ay s <;> cases onB t.bx t.bz s <;> rfl
theorem meetG_mv (h1 : lnG s = true) (h2 : lnG (mvL s x y) = true) (h3 : lnG t = true) (h4 : lnG (mvL t x y) = true) : meetG (mvL s x y) (mvL t x y) = mvP (meetG s t) x y := by
  have h0 : mvP cpNone x y = cpNone := by unfold mvP cpNone; simp
  unfold meetG
  rw [aprtL_mv, cC_mv, ends_mv s t x y h1 h2 h3 h4, touchOf_map, crossCp_mv]
  split
  · exact h0.symm
  · split <;> rfl
end
theorem kind_mv (p : Cp) (x y : Int) : (mvP p x y).k = p.k := rfl
/-- The pixel about n / d. -/
def midI (n d : Int) : Int := (n + 32 * d) / (64 * d)
theorem midI_mv (n d x : Int) (hd : 0 < d) : midI (n + 64 * x * d) d = midI n d + x := by
  unfold midI
  rw [show n + 64 * x * d + 32 * d = n + 32 * d + x * (64 * d) by grind, Int.add_mul_ediv_right _ _ (by omega)]
/-- Kinds. -/
theorem crossPos_k (s : Ln) (n m c : Int) : (in01 n m c = true ∧ crossPos s n m c = crossAt s n c) ∨ (in01 n m c = false ∧ crossPos s n m c = cpNone) := by
  unfold crossPos
  cases h : in01 n m c
  · right; simp
  · left; simp
theorem in01_iff {n m c : Int} : in01 n m c = true ↔ 0 ≤ n ∧ n ≤ c ∧ 0 ≤ m ∧ m ≤ c := by
  unfold in01
  simp only [Bool.and_eq_true, decide_eq_true_eq, and_assoc]
def boxP (p : Cp) (s : Ln) : Prop := lo2 s.ax s.bx * p.d ≤ p.x ∧ p.x ≤ hi2 s.ax s.bx * p.d ∧ lo2 s.ay s.bz * p.d ≤ p.y ∧ p.y ≤ hi2 s.ay s.bz * p.d
theorem conv_in (a b n c : Int) (h0 : 0 ≤ n) (h1 : n ≤ c) : lo2 a b * c ≤ a * c + (b - a) * n ∧ a * c + (b - a) * n ≤ hi2 a b * c := by
  by_cases h : a ≤ b
  · have e1 : lo2 a b = a := by unfold lo2; split <;> omega
    have e2 : hi2 a b = b := by unfold hi2; split <;> omega
    have k1 : 0 ≤ (b - a) * n := Int.mul_nonneg (by omega) h0
    have k2 : 0 ≤ (b - a) * (c - n) := Int.mul_nonneg (by omega) (by omega)
    rw [e1, e2]
    rw [show (b - a) * (c - n) = b * c - (a * c + (b - a) * n) by grind] at k2
    omega
  · have e1 : lo2 a b = b := by unfold lo2; split <;> omega
    have e2 : hi2 a b = a := by unfold hi2; split <;> omega
    have k1 : 0 ≤ (a - b) * n := Int.mul_nonneg (by omega) h0
    have k2 : 0 ≤ (a - b) * (c - n) := Int.mul_nonneg (by omega) (by omega)
    rw [e1, e2]
    rw [show (a - b) * (c - n) = a * c + (b - a) * n - b * c by grind] at k2
    rw [show (a - b) * n = -((b - a) * n) by grind] at k1
    omega
theorem crossAt_in (s : Ln) (n c : Int) (h0 : 0 ≤ n) (h1 : n ≤ c) : boxP (crossAt s n c) s :=
  ⟨(conv_in _ _ _ _ h0 h1).1, (conv_in _ _ _ _ h0 h1).2, (conv_in _ _ _ _ h0 h1).1, (conv_in _ _ _ _ h0 h1).2⟩
theorem cross_in (s t : Ln) (h : cC s t ≠ 0) (hk : (crossCp s t).k = 1) : 0 < (crossCp s t).d ∧ boxP (crossCp s t) s := by
  unfold crossCp at *
  by_cases h0 : cC s t < 0
  · rw [if_pos h0] at *
    rcases crossPos_k s (-nC s t) (-mC s t) (-cC s t) with ⟨hi, e⟩ | ⟨_, e⟩
    · rw [e] at hk ⊢
      have := in01_iff.1 hi
      exact ⟨show 0 < -cC s t by omega, crossAt_in s _ _ (by omega) (by omega)⟩
    · rw [e] at hk; cases hk
  · rw [if_neg h0] at *
    rcases crossPos_k s (nC s t) (mC s t) (cC s t) with ⟨hi, e⟩ | ⟨_, e⟩
    · rw [e] at hk ⊢
      have := in01_iff.1 hi
      exact ⟨show 0 < cC s t by omega, crossAt_in s _ _ (by omega) (by omega)⟩
    · rw [e] at hk; cases hk
theorem btw_iff {a n b : Int} : btw a n b = true ↔ lo2 a b ≤ n ∧ n ≤ hi2 a b := by unfold btw; simp
theorem lo2_le (a b : Int) : lo2 a b ≤ a ∧ lo2 a b ≤ b := by unfold lo2; split <;> omega
theorem hi2_le (a b : Int) : a ≤ hi2 a b ∧ b ≤ hi2 a b := by unfold hi2; split <;> omega
theorem on_btw {x y : Int} {l : Ln} (h : onB x y l = true) : btw l.ax x l.bx = true ∧ btw l.ay y l.bz = true := by
  unfold onB at h
  simp only [Bool.and_eq_true] at h
  exact ⟨h.1.2, h.2⟩
theorem ends_in (s t : Ln) (x : Int × Int) (h : x ∈ ends s t) : (btw s.ax x.1 s.bx = true ∧ btw s.ay x.2 s.bz = true) := by
  rcases mem_ends.1 h with ⟨rfl, _⟩ | ⟨rfl, _⟩ | ⟨rfl, k⟩ | ⟨rfl, k⟩
  · exact ⟨btw_iff.2 ⟨(lo2_le _ _).1, (hi2_le _ _).1⟩, btw_iff.2 ⟨(lo2_le _ _).1, (hi2_le _ _).1⟩⟩
  · exact ⟨btw_iff.2 ⟨(lo2_le _ _).2, (hi2_le _ _).2⟩, btw_iff.2 ⟨(lo2_le _ _).2, (hi2_le _ _).2⟩⟩
  · exact on_btw k
  · exact on_btw k
theorem touch_cases (L : List (Int × Int)) : (L = [] ∧ touchOf L = cpNone) ∨ (∃ e, e ∈ L ∧ touchOf L = ⟨1, e.1, e.2, 1⟩) ∨ touchOf L = ⟨2, 0, 0, 0⟩ := by
  cases L with
  | nil => exact .inl ⟨rfl, rfl⟩
  | cons a r =>
    by_cases hall : ∀ z ∈ a :: r, z = a
    · exact .inr (.inl ⟨a, by simp, touch_one (by simp) hall⟩)
    · obtain ⟨z, hz⟩ := Classical.not_forall.1 hall
      obtain ⟨hz1, hz2⟩ := Classical.not_imp.1 hz
      exact .inr (.inr (touch_two hz1 (by simp) hz2))
theorem meetG_in (s t : Ln) (hk : (meetG s t).k = 1) : 0 < (meetG s t).d ∧ boxP (meetG s t) s := by
  unfold meetG at *
  split
  · rename_i h; rw [if_pos h] at hk; cases hk
  · rename_i h
    rw [if_neg h] at hk
    split
    · rename_i h0
      rw [if_pos h0] at hk
      rcases touch_cases (ends s t) with ⟨_, e⟩ | ⟨x, hx, e⟩ | e
      · rw [e] at hk; cases hk
      · rw [e]
        obtain ⟨b1, b2⟩ := ends_in s t x hx
        have := btw_iff.1 b1; have := btw_iff.1 b2
        refine ⟨Int.one_pos, ?_⟩
        unfold boxP
        simp only [Int.mul_one]
        omega
      · rw [e] at hk; cases hk
    · rename_i h0
      rw [if_neg h0] at hk
      exact cross_in s t h0 hk
theorem meetG_in2 (s t : Ln) (hk : (meetG s t).k = 1) : boxP (meetG s t) t := by
  rw [← meetG_swap] at hk ⊢
  exact (meetG_in t s hk).2
theorem share_in {v n w c : Int} (h : v * n = w * c) (hc : 0 < c) (hv : (0 < v ∧ 0 ≤ w ∧ w ≤ v) ∨ (v < 0 ∧ v ≤ w ∧ w ≤ 0)) : 0 ≤ n ∧ n ≤ c := by
  rcases hv with ⟨hv, hw, hw2⟩ | ⟨hv, hw, hw2⟩
  · have h0 : 0 ≤ v * n := by rw [h]; exact Int.mul_nonneg hw (by omega)
    have h1 : v * n ≤ v * c := by rw [h]; exact Int.mul_le_mul_of_nonneg_right hw2 (by omega)
    exact ⟨Int.le_of_mul_le_mul_left (by rw [Int.mul_zero]; exact h0) hv, Int.le_of_mul_le_mul_left h1 hv⟩
  · have h2 : (-v) * n = (-w) * c := by rw [Int.neg_mul, Int.neg_mul, h]
    have h0 : 0 ≤ (-v) * n := by rw [h2]; exact Int.mul_nonneg (by omega) (by omega)
    have h1 : (-v) * n ≤ (-v) * c := by rw [h2]; exact Int.mul_le_mul_of_nonneg_right (by omega) (by omega)
    exact ⟨Int.le_of_mul_le_mul_left (by rw [Int.mul_zero]; exact h0) (show 0 < -v by omega), Int.le_of_mul_le_mul_left h1 (show 0 < -v by omega)⟩
theorem on_parts {x y : Int} {l : Ln} (h : onB x y l = true) : lnG l = true ∧ goodB x y = true ∧ crossI (l.bx - l.ax) (l.bz - l.ay) (x - l.ax) (y - l.ay) = 0 ∧ btw l.ax x l.bx = true ∧ btw l.ay y l.bz = true := by
  unfold onB turnI at h
  rw [sgn_zero] at h
  simp only [Bool.and_eq_true, decide_eq_true_eq] at h
  obtain ⟨⟨⟨⟨⟨h1, h2⟩, h3⟩, h4⟩, h5⟩, h6⟩ := h
  exact ⟨by unfold lnG; rw [h1, h2]; rfl, h3, h4, h5, h6⟩
theorem aprt_not {a b c d n : Int} (h : lo2 a b ≤ n ∧ n ≤ hi2 a b) (k : lo2 c d ≤ n ∧ n ≤ hi2 c d) : aprt a b c d = false := by
  unfold aprt
  simp only [Bool.or_eq_false_iff, decide_eq_false_iff_not]
  omega
/-- An end on the other line is met. -/
theorem on_met (s t : Ln) (h : onB s.ax s.ay t = true) : 0 < (meetG s t).k := by
  obtain ⟨g1, g2, hc, b1, b2⟩ := on_parts h
  have k1 := btw_iff.1 b1; have k2 := btw_iff.1 b2
  have hap : aprtL s t = false := by
    unfold aprtL
    rw [aprt_not (n := s.ax) ⟨(lo2_le _ _).1, (hi2_le _ _).1⟩ k1, aprt_not (n := s.ay) ⟨(lo2_le _ _).1, (hi2_le _ _).1⟩ k2]; rfl
  unfold meetG
  rw [hap, if_neg (by simp)]
  by_cases h0 : cC s t = 0
  · rw [if_pos h0]
    have hm : (s.ax, s.ay) ∈ ends s t := mem_ends.2 (.inl ⟨rfl, h⟩)
    rcases touch_cases (ends s t) with ⟨e, _⟩ | ⟨x, _, e⟩ | e
    · rw [e] at hm; cases hm
    · rw [e]; exact Int.one_pos
    · rw [e]; decide
  · rw [if_neg h0]
    have hn : nC s t = 0 := by unfold nC; unfold crossI at hc ⊢; grind
    have e1 : (t.bx - t.ax) * mC s t = (s.ax - t.ax) * cC s t := by unfold mC cC; unfold crossI at hc ⊢; grind
    have e2 : (t.bz - t.ay) * mC s t = (s.ay - t.ay) * cC s t := by unfold mC cC; unfold crossI at hc ⊢; grind
    have hu : t.bx - t.ax ≠ 0 ∨ t.bz - t.ay ≠ 0 := by
      by_cases hx : t.bx - t.ax = 0
      · right; intro hy; apply h0; unfold cC crossI; rw [hx, hy]; simp
      · exact .inl hx
    have bx : (0 < t.bx - t.ax ∧ 0 ≤ s.ax - t.ax ∧ s.ax - t.ax ≤ t.bx - t.ax) ∨ (t.bx - t.ax < 0 ∧ t.bx - t.ax ≤ s.ax - t.ax ∧ s.ax - t.ax ≤ 0) ∨ t.bx - t.ax = 0 := by
      unfold lo2 hi2 at k1; split at k1 <;> split at k1 <;> omega
    have by' : (0 < t.bz - t.ay ∧ 0 ≤ s.ay - t.ay ∧ s.ay - t.ay ≤ t.bz - t.ay) ∨ (t.bz - t.ay < 0 ∧ t.bz - t.ay ≤ s.ay - t.ay ∧ s.ay - t.ay ≤ 0) ∨ t.bz - t.ay = 0 := by
      unfold lo2 hi2 at k2; split at k2 <;> split at k2 <;> omega
    unfold crossCp
    by_cases hneg : cC s t < 0
    · rw [if_pos hneg]
      have hm : 0 ≤ -mC s t ∧ -mC s t ≤ -cC s t := by
        rcases hu with hu | hu
        · exact share_in (v := t.bx - t.ax) (w := s.ax - t.ax) (by rw [Int.mul_neg, Int.mul_neg, e1]) (by omega) (by rcases bx with h | h | h; exact .inl h; exact .inr h; exact absurd h hu)
        · exact share_in (v := t.bz - t.ay) (w := s.ay - t.ay) (by rw [Int.mul_neg, Int.mul_neg, e2]) (by omega) (by rcases by' with h | h | h; exact .inl h; exact .inr h; exact absurd h hu)
      rcases crossPos_k s (-nC s t) (-mC s t) (-cC s t) with ⟨_, e⟩ | ⟨hi, _⟩
      · rw [e]; exact Int.one_pos
      · rw [show in01 (-nC s t) (-mC s t) (-cC s t) = true from in01_iff.2 (by omega)] at hi; cases hi
    · rw [if_neg hneg]
      have hm : 0 ≤ mC s t ∧ mC s t ≤ cC s t := by
        rcases hu with hu | hu
        · exact share_in (v := t.bx - t.ax) (w := s.ax - t.ax) e1 (by omega) (by rcases bx with h | h | h; exact .inl h; exact .inr h; exact absurd h hu)
        · exact share_in (v := t.bz - t.ay) (w := s.ay - t.ay) e2 (by omega) (by rcases by' with h | h | h; exact .inl h; exact .inr h; exact absurd h hu)
      rcases crossPos_k s (nC s t) (mC s t) (cC s t) with ⟨_, e⟩ | ⟨hi, _⟩
      · rw [e]; exact Int.one_pos
      · rw [show in01 (nC s t) (mC s t) (cC s t) = true from in01_iff.2 (by omega)] at hi; cases hi
theorem on_met' (s t : Ln) (h : (onB s.ax s.ay t || onB s.bx s.bz t || onB t.ax t.ay s || onB t.bx t.bz s) = true) : 0 < (meetG s t).k := by
  simp only [Bool.or_eq_true] at h
  rcases h with ((h | h) | h) | h
  · exact on_met s t h
  · rw [← meetG_rev]; exact on_met (rev s) t h
  · rw [← meetG_swap]; exact on_met t s h
  · rw [← meetG_swap, ← meetG_rev]; exact on_met (rev t) s h
theorem on_start (s : Ln) (h : lnG s = true) : onB s.ax s.ay s = true := by
  unfold lnG at h
  unfold onB turnI
  rw [h, (Bool.and_eq_true_iff.1 h).1, sgn_zero, btw_iff.2 ⟨(lo2_le _ _).1, (hi2_le _ _).1⟩, btw_iff.2 ⟨(lo2_le _ _).1, (hi2_le _ _).1⟩]
  unfold crossI
  simp
/-- Lines with a common end have a point in common. -/
theorem end_met (s : Ln) (x y : Int) (h : lnG s = true) : 0 < (meetG s ⟨s.bx, s.bz, x, y⟩).k := by
  refine on_met' _ _ ?_
  have := on_start (rev s) (by rw [lnG_rev]; exact h)
  rw [onB_rev] at this
  simp only [Bool.or_eq_true]
  exact .inl (.inr this)
end Go.Proofs.YtcfghkphkmoikaaGreat
