/-
  Texts of this seat, put together: each with its own head.
-/
import Derived.Test.YtdbenpncnkfliaaFlBd
import Derived.Deep.CutBlock
import Derived.Deep.DeepCutAuto
import Derived.Deep.RegionWith

/-
  Layer 11: 'Segs', walked.
-/
namespace Go.Proofs.Ytdbenpncnkfliaa
open Go.RowKit Go.ChangeShapes Go.WideShapes Go.Deep
set_option linter.unusedVariables false

/-- The cells of a knot. -/
def Kf (x y : Int) (o : Bool) (j : Nat) : Value := if j = 0 then .int .i64 x else if j = 1 then .int .i64 y else .bool o
theorem krow (w : World) (b : Nat) (hb : b = w.heap.size) (t : TypeId) (x y : Int) (o : Bool) : Row (w.alloc (.cells #[.int .i64 x, .int .i64 y, .bool o] t)) b 3 (Kf x y o) := by
  subst hb
  refine Row.of_cells fun j hj => ?_
  have h : j = 0 ∨ j = 1 ∨ j = 2 := by omega
  rcases h with rfl | rfl | rfl <;> rfl
theorem kcells {w : World} {b : Nat} {x y : Int} {o : Bool} (h : Row w b 3 (Kf x y o)) : w.cell? ⟨b, 0, none⟩ = some (.int .i64 x) ∧ w.cell? ⟨b, 1, none⟩ = some (.int .i64 y) ∧ w.cell? ⟨b, 2, none⟩ = some (.bool o) ∧ b < w.heap.size := ⟨h.1 0 (by omega), h.1 1 (by omega), h.1 2 (by omega), h.2.2⟩
/-- The cells of a piece. -/
def Sf (s : Sg) (j : Nat) : Value := (sgL s).getD j undef
theorem srow (w : World) (b : Nat) (hb : b = w.heap.size) (t : TypeId) (s : Sg) : Row (w.alloc (.cells #[.int .i64 s.ax, .int .i64 s.ay, .int .i64 s.cx, .int .i64 s.cy, .int .i64 s.bx, .int .i64 s.bz, .bool s.k] t)) b 7 (Sf s) := by
  subst hb
  refine Row.of_cells fun j hj => ?_
  have h : j = 0 ∨ j = 1 ∨ j = 2 ∨ j = 3 ∨ j = 4 ∨ j = 5 ∨ j = 6 := by omega
  rcases h with rfl | rfl | rfl | rfl | rfl | rfl | rfl <;> rfl
theorem sput {w : World} {b : Nat} {s0 : Sg} (h : Row w b 7 (Sf s0)) (s : Sg) : Row (((((((w.setCell ⟨b, 0, none⟩ (.int .i64 s.ax)).setCell ⟨b, 1, none⟩ (.int .i64 s.ay)).setCell ⟨b, 2, none⟩ (.int .i64 s.cx)).setCell ⟨b, 3, none⟩ (.int .i64 s.cy)).setCell ⟨b, 4, none⟩ (.int .i64 s.bx)).setCell ⟨b, 5, none⟩ (.int .i64 s.bz)).setCell ⟨b, 6, none⟩ (.bool s.k)) b 7 (Sf s) := by
  refine (((((((h.set 0 _).set 1 _).set 2 _).set 3 _).set 4 _).set 5 _).set 6 _).congr fun j hj => ?_
  have hh : j = 0 ∨ j = 1 ∨ j = 2 ∨ j = 3 ∨ j = 4 ∨ j = 5 ∨ j = 6 := by omega
  rcases hh with rfl | rfl | rfl | rfl | rfl | rfl | rfl <;> rfl
theorem sput2 {w : World} {b : Nat} {ax ay cx cy bx bz : Int} {k : Bool} (h : Row w b 7 (Sf ⟨ax, ay, cx, cy, bx, bz, k⟩)) (x y : Int) : Row ((w.setCell ⟨b, 2, none⟩ (.int .i64 x)).setCell ⟨b, 3, none⟩ (.int .i64 y)) b 7 (Sf ⟨ax, ay, x, y, bx, bz, k⟩) := by
  refine ((h.set 2 _).set 3 _).congr fun j hj => ?_
  have hh : j = 0 ∨ j = 1 ∨ j = 2 ∨ j = 3 ∨ j = 4 ∨ j = 5 ∨ j = 6 := by omega
  rcases hh with rfl | rfl | rfl | rfl | rfl | rfl | rfl <;> rfl
theorem sput4 {w : World} {b : Nat} {ax ay cx cy bx bz : Int} {k : Bool} (h : Row w b 7 (Sf ⟨ax, ay, cx, cy, bx, bz, k⟩)) (x y : Int) : Row ((w.setCell ⟨b, 4, none⟩ (.int .i64 x)).setCell ⟨b, 5, none⟩ (.int .i64 y)) b 7 (Sf ⟨ax, ay, cx, cy, x, y, k⟩) := by
  refine ((h.set 4 _).set 5 _).congr fun j hj => ?_
  have hh : j = 0 ∨ j = 1 ∨ j = 2 ∨ j = 3 ∨ j = 4 ∨ j = 5 ∨ j = 6 := by omega
  rcases hh with rfl | rfl | rfl | rfl | rfl | rfl | rfl <;> rfl
theorem scells {w : World} {b : Nat} {s : Sg} (h : Row w b 7 (Sf s)) : w.cell? ⟨b, 0, none⟩ = some (.int .i64 s.ax) ∧ w.cell? ⟨b, 1, none⟩ = some (.int .i64 s.ay) ∧ w.cell? ⟨b, 2, none⟩ = some (.int .i64 s.cx) ∧ w.cell? ⟨b, 3, none⟩ = some (.int .i64 s.cy) ∧ w.cell? ⟨b, 4, none⟩ = some (.int .i64 s.bx) ∧ w.cell? ⟨b, 5, none⟩ = some (.int .i64 s.bz) ∧ w.cell? ⟨b, 6, none⟩ = some (.bool s.k) ∧ b < w.heap.size := ⟨h.1 0 (by omega), h.1 1 (by omega), h.1 2 (by omega), h.1 3 (by omega), h.1 4 (by omega), h.1 5 (by omega), h.1 6 (by omega), h.2.2⟩
theorem OwnS.alloc {w : World} {base : Nat} {v : Value} {L : List Sg} (h : OwnS w base v L) (o : Obj) : OwnS (w.alloc o) base v L := h.since ((Since.refl w).alloc o)
theorem OwnS.keep {w w' : World} {base : Nat} {v : Value} {L : List Sg} (h : OwnS w base v L) (hk : ∀ b, base ≤ b → b < w.heap.size → w'.heap[b]? = w.heap[b]?) : OwnS w' base v L := by
  refine ⟨h.1, ?_⟩
  rcases h.2 with h0 | ⟨g, cap, cur, e1, hb, hh, r⟩
  · exact .inl h0
  · refine .inr ⟨g, cap, cur, e1, hb, ?_, r⟩
    have hlt : g < w.heap.size := by
      rcases Nat.lt_or_ge g w.heap.size with hlt | hge
      · exact hlt
      · rw [Array.getElem?_eq_none hge] at hh; cases hh
    rw [hk g hb hlt]; exact hh
theorem OwnS.far {w : World} {base b : Nat} {v : Value} {L : List Sg} (h : OwnS w base v L) (hb : b < base) (o o' : Nat) (x y : Value) : OwnS ((w.setCell ⟨b, o, none⟩ x).setCell ⟨b, o', none⟩ y) base v L :=
  h.keep fun c hc hlt => by simp [World.setCell, Array.getElem?_modify, show ¬ b = c by omega]
theorem Row.grownO {w w' : World} {b n : Nat} {row : Option Nat} {f : Nat → Value} (h : Row w b n f) (hg : w.grownBy w' row) (hb : row ≠ some b) : Row w' b n f := by
  have e := hg.block b h.2.2 (fun x => hb x.symm)
  refine ⟨fun j hj => ?_, fun j => ?_, Nat.lt_of_lt_of_le h.2.2 hg.size⟩
  · rw [← h.1 j hj]; simp only [World.cell?, e]
  · rw [← h.2.1 j]; simp only [World.frozen?, e]
/-- What 'Segs' answers: an own row of the pieces. -/
def SegsOut (w : World) (L : List Sg) (e : Ending) (w' : World) : Prop := ∃ v base, e = .returned v ∧ w.heap.size ≤ base ∧ OwnS w' base v L ∧ Since w w'
theorem max0 (O : Nat → Bool) (n : Nat) : ∀ w : World, (Builtin.max_ #[3, 3] 3 #[.int .i64 (idxI O n), .int .i64 0]).run Try.prog w = .ok (.int .i64 (frs n O : Int)) w := fun w => by
  have h : (Builtin.max_ #[3, 3] 3 #[.int .i64 (idxI O n), .int .i64 0]).run Try.prog w = .ok (.int .i64 (if idxI O n < 0 then 0 else idxI O n)) w := rfl
  rw [h]
  unfold idxI frs
  split
  · rw [if_neg (by omega)]
  · rfl
theorem frs_lt {n : Nat} {O : Nat → Bool} (hn : 0 < n) : frs n O < n := by unfold frs; split <;> omega
set_option maxRecDepth 100000 in
theorem ou_segs_nil (A : Option Addr) (c : Nat) (X Y : Nat → Int) (O : Nat → Bool) (w : World) : Calls Try.prog 15 #[.slice A 0 c] w (SegsOut w (segsL 0 X Y O)) := by
  go_enter Try.func15, Try.ntmps15
  go_wp2
  go_ret
  exact ⟨_, _, rfl, Nat.le_refl _, OwnS.nil _ _, by (repeat (first | with_reducible (exact Since.refl _) | with_reducible assumption | with_reducible (refine Since.drew ?_) | with_reducible (refine Since.drewN ?_ _) | with_reducible (refine Since.alloc ?_ _) | (with_reducible (refine Since.setCell ?_ ?_ _); rotate_left; focus (first | (simp; done) | (simp; omega) | omega)) | (with_reducible (refine Since.trans ?_ (by with_reducible assumption)))))⟩
set_option maxRecDepth 100000 in
set_option maxHeartbeats 32000000 in
theorem ou_segs_pos (A : Option Addr) (n c : Nat) (X Y : Nat → Int) (O : Nat → Bool) (w : World) (h : RdK w w.heap.size A n X Y O) (hX : ∀ j, j < n → InP (X j) (Y j)) (hn0 : 0 < n) (hn : n ≤ 1000000) :
    Calls Try.prog 15 #[.slice A n c] w (SegsOut w (segsL n X Y O)) := by
  have hmax := max0 O n
  have hidx := fun (w' : World) (hS : Since w w') => ou_index A n c X Y O w' (h.on hS) (by simp only [maxLen]; omega)
  have hf := frs_lt (O := O) hn0
  have hfi : ((frs n O : Nat) : Int) < (n : Int) := by omega
  have hn1 : (0 : Int) < n := by omega
  obtain ⟨b, o, rfl, hb, hc⟩ := h hn0
  obtain ⟨g1, g2, g3⟩ := hc (frs n O) hf
  have hlen : decide ((n : Int) = 0) = false := by simp; omega
  have hlen2 : ((n : Int) == 0) = false := by simp; omega
  have hpt := fun x y k w => ou_point x y k w
  unfold Kn Pt at hpt
  have HI := Lib.hid hidx
  have HC := Lib.hid hc
  have HX := Lib.hid hX
  have HP := Lib.hid hpt
  clear hidx hc hX hpt h
  generalize hfr : frs n O = f at *
  have HF := Lib.hid hfr
  clear hfr
  go_enter Try.func15, Try.ntmps15
  go_upto_region 5 with (first | (go_at_call 46; (with_reducible refine (HI.out _ (Since.refl _)).mono ?_); rintro e w1 ⟨rfl, hS1⟩; have g1 := (hS1.1 _ _ hb).trans g1; have g2 := (hS1.1 _ _ hb).trans g2; have g3 := (hS1.1 _ _ hb).trans g3; have hb1 := hS1.2.2.1 _ hb) | (go_at_call 48; (with_reducible refine (HP.out _ _ _ _).mono ?_); rintro e w2 ⟨rfl, hS2⟩))
  refine wp_named fun w3 hw3 => ?_
  have rH : Row w3 w2.heap.size 2 (Pf (X f) (Y f)) := by subst hw3; exact prow w2 _ rfl _ _ _
  have hS12 : Since w w2 := hS1.trans hS2
  have hbh := hS12.below.size
  have hS : Since w w3 := by subst hw3; exact hS12.alloc _
  clear hw3 hS1 hS2 hS12 g1 g2 g3 hb1
  generalize w2.heap.size = bh at *
  have hcf := HC.out f hf
  have g3 : w3.cell? ⟨b, o + f * 3 + 2, none⟩ = some (.bool (O f)) := (hS.1 _ _ hb).trans hcf.2.2
  have hb3 := hS.2.2.1 _ hb
  generalize hst0 : startS n X Y O = st at *
  have HST := Lib.hid hst0
  clear hst0
  go_upto_if 26 with fail
  go_cut [] (fun wx => Since w wx ∧ Row wx bh 2 (Pf st.1 st.2))
  case first =>
    have hfo := firstOn_is O n
    cases hof : O f
    · have hnone : ¬ firstOn O n < n := fun hlt => by
        have e : f = firstOn O n := by rw [← HF.out]; unfold frs; rw [if_pos hlt]
        rw [e, hfo.2.2 hlt] at hof
        cases hof
      have e0 : f = 0 := by rw [← HF.out]; unfold frs; rw [if_neg hnone]
      have hst : st = (mid (X (n - 1)) (X 0), mid (Y (n - 1)) (Y 0)) := by rw [← HST.out]; unfold startS; rw [if_neg hnone]
      have HST2 := Lib.hid hst
      obtain ⟨x1, x2, x3⟩ := HC.out (n - 1) (by omega)
      have p1 : w3.cell? ⟨b, o + (n - 1) * 3, none⟩ = some (.int .i64 (X (n - 1))) := (hS.1 _ _ hb).trans x1
      have p2 : w3.cell? ⟨b, o + (n - 1) * 3 + 1, none⟩ = some (.int .i64 (Y (n - 1))) := (hS.1 _ _ hb).trans x2
      have p3 : w3.cell? ⟨b, o + (n - 1) * 3 + 2, none⟩ = some (.bool (O (n - 1))) := (hS.1 _ _ hb).trans x3
      obtain ⟨q1, q2, q3⟩ := pcells rH
      have hm := fun w => ou_mid (X (n - 1)) (Y (n - 1)) (X f) (Y f) (HX.out _ (by omega)) (HX.out _ hf) w
      rw [e0] at hm q1 q2 rH g3 hof
      have HE0 := Lib.hid e0
      have hm : ∀ w, Calls Try.prog 19 #[Pt (X (n - 1)) (Y (n - 1)), Pt (X 0) (Y 0)] w fun e w' => e = .returned (Pt st.1 st.2) ∧ Since w w' := by rw [hst]; exact hm
      obtain ⟨sx, sy⟩ := st
      simp only at hm
      generalize X (n - 1) = xl at *
      generalize Y (n - 1) = yl at *
      generalize O (n - 1) = ol at *
      unfold Pt at hm
      have HM := Lib.hid hm
      have k1 : IntKind.i64.wrap ((n : Int) - 1) = (n : Int) - 1 := IntWalk.i64_in _ (by omega)
      have k2 : (0 : Int) ≤ (n : Int) - 1 := by omega
      have k3 : ((n : Int) - 1).toNat = n - 1 := by omega
      have k4 : (n : Int) - 1 < (n : Int) := by omega
      have k5 : (1 : Int) ≤ (n : Int) := by omega
      have q3d : bh < w3.drew.heap.size := q3
      have hb3d : b < w3.drew.heap.size := hb3
      have tok8 : True := trivial
      have tok9 : True := trivial
      have hne : b ≠ bh := by omega
      have hfz := rH.2.1
      have z0 := hfz 0; have z1 := hfz 1
      clear hm x1 x2 x3 hcf hfo hnone hst hfz HC HX HI HF HST HST2 hmax e0
      rw [hof] at g3
      go_wp2_with fail
      go_region_with (first | (go_at_call 48; (with_reducible refine (HP.out _ _ _ _).mono ?_); rintro e w8 ⟨rfl, hS8⟩; have u1 := (hS8.1 _ _ q3d).trans q1; have u2 := (hS8.1 _ _ q3d).trans q2; have u3 := hS8.2.2.1 _ q3d; have zz0 := (hS8.2.1 bh 0 q3d).trans z0; have zz1 := (hS8.2.1 bh 1 q3d).trans z1) | (go_at_call 19; (with_reducible refine (HM.out _).mono ?_); rintro e w9 ⟨rfl, hS9⟩; have t1 := (hS9.1 _ _ u3).trans u1; have t2 := (hS9.1 _ _ u3).trans u2; have t3 := hS9.2.2.1 _ u3; have zy0 := (hS9.2.1 bh 0 u3).trans zz0; have zy1 := (hS9.2.1 bh 1 u3).trans zz1))
      all_goals (go_wp2_with fail)
      all_goals go_meet
      all_goals exact ⟨(((hS.drew.trans hS8).trans hS9).setCell hbh _).setCell hbh _, pput ((rH.drew.since hS8).since hS9) sx sy⟩
    · have hlt : firstOn O n < n := by
        rcases Nat.lt_or_ge (firstOn O n) n with h | h
        · exact h
        · have e : f = 0 := by rw [← HF.out]; unfold frs; rw [if_neg (by omega)]
          have := hfo.2.1 f (by omega)
          rw [this] at hof
          cases hof
      have hst : st = (X f, Y f) := by
        rw [← HST.out]; unfold startS
        rw [if_pos hlt]
        have e : f = firstOn O n := by rw [← HF.out]; unfold frs; rw [if_pos hlt]
        rw [e]
      have HST2 := Lib.hid hst
      clear hst hlt hfo
      rw [hof] at g3
      go_wp2_with fail
      go_meet
      case rel => exact ⟨hS, by rw [HST2.out]; exact rH⟩
  obtain ⟨hS, rH⟩ := hcut
  clear g3 hb3 hcf
  go_wp2_with fail
  go_loopg [5, 38] n (fun g v y wr => ∃ i : Nat, i + g = n ∧ y = .int .i64 (i : Int) ∧ OwnS wr (bh + 1) v (runS f n X Y O st i).2 ∧ Row wr bh 2 (Pf (runS f n X Y O st i).1.1 (runS f n X Y O st i).1.2) ∧ Since w wr)
  case atStart => exact ⟨0, by omega, rfl, OwnS.nil _ _, rH, hS⟩
  case round =>
    obtain ⟨i, hig, rfl, hO, rH, hS⟩ := hrel
    by_cases hi : i < n
    · have hi' : (i : Int) < n := by omega
      have hk : (f + i) % n < n := Nat.mod_lt _ hn0
      have hk2 : (f + i + 1) % n < n := Nat.mod_lt _ hn0
      have u1 : IntKind.i64.wrap ((f : Int) + (i : Int)) = (f : Int) + (i : Int) := IntWalk.i64_in _ (by omega)
      have u2 : IntKind.i64.wrap ((f : Int) + (i : Int) + 1) = (f : Int) + (i : Int) + 1 := IntWalk.i64_in _ (by omega)
      have u3 : ((f : Int) + (i : Int)).tmod (n : Int) = (((f + i) % n : Nat) : Int) := by rw [Int.tmod_eq_emod_of_nonneg (by omega), Int.natCast_emod, Int.natCast_add]
      have u4 : ((f : Int) + (i : Int) + 1).tmod (n : Int) = (((f + i + 1) % n : Nat) : Int) := by rw [Int.tmod_eq_emod_of_nonneg (by omega), Int.natCast_emod, Int.natCast_add, Int.natCast_add]; rfl
      obtain ⟨x1, x2, x3⟩ := HC.out _ hk
      obtain ⟨y1, y2, y3⟩ := HC.out _ hk2
      have hik := HX.out _ hk
      have hin := HX.out _ hk2
      have hstep : runS f n X Y O st (i + 1) = stepS f n X Y O (runS f n X Y O st i).1 (runS f n X Y O st i).2 i := rfl
      have hlenL := runS_len f n X Y O st i
      unfold stepS at hstep
      have HS := Lib.hid hstep
      clear hstep
      generalize (f + i) % n = k at *
      generalize (f + i + 1) % n = m at *
      generalize X k = xk at *
      generalize Y k = yk at *
      generalize X m = xm at *
      generalize Y m = ym at *
      have k1 : wr.cell? ⟨b, o + k * 3, none⟩ = some (.int .i64 xk) := (hS.1 _ _ hb).trans x1
      have k2 : wr.cell? ⟨b, o + k * 3 + 1, none⟩ = some (.int .i64 yk) := (hS.1 _ _ hb).trans x2
      have k3 : wr.cell? ⟨b, o + k * 3 + 2, none⟩ = some (.bool (O k)) := (hS.1 _ _ hb).trans x3
      have m1 : wr.cell? ⟨b, o + m * 3, none⟩ = some (.int .i64 xm) := (hS.1 _ _ hb).trans y1
      have m2 : wr.cell? ⟨b, o + m * 3 + 1, none⟩ = some (.int .i64 ym) := (hS.1 _ _ hb).trans y2
      have m3 : wr.cell? ⟨b, o + m * 3 + 2, none⟩ = some (.bool (O m)) := (hS.1 _ _ hb).trans y3
      have hbw := hS.2.2.1 _ hb
      have hkI : (k : Int) < n := by omega
      have hmI : (m : Int) < n := by omega
      have hnz : (n : Int) ≠ 0 := by omega
      clear x1 x2 x3 y1 y2 y3
      generalize runS f n X Y O st i = R at *
      obtain ⟨⟨hx, hy⟩, L⟩ := R
      simp only at rH hO hlenL
      go_wp2_with fail
      refine wp_named fun wr0 hwr0 => ?_
      obtain rfl := hwr0
      go_cut [7, 8] (fun x y wx => ∃ p q : Nat, x = .pointer (some ⟨p, 0, none⟩) ∧ y = .pointer (some ⟨q, 0, none⟩) ∧ wr0.heap.size ≤ p ∧ wr0.heap.size ≤ q ∧ Since wr0 wx ∧ Row wx p 3 (Kf xk yk (O k)) ∧ Row wx q 3 (Kf xm ym (O m)))
      case first =>
        go_region
        all_goals (go_wp2_with fail)
        all_goals go_meet
        all_goals first
          | exact ⟨_, _, rfl, rfl, Nat.le_refl _, by simp, by (repeat (first | with_reducible (exact Since.refl _) | with_reducible assumption | with_reducible (refine Since.drew ?_) | with_reducible (refine Since.drewN ?_ _) | with_reducible (refine Since.alloc ?_ _) | (with_reducible (refine Since.setCell ?_ ?_ _); rotate_left; focus (first | (simp; done) | (simp; omega) | omega)) | (with_reducible (refine Since.trans ?_ (by with_reducible assumption))))), ((krow wr0 _ rfl _ _ _ _).alloc _).drew, (krow _ _ (by simp) _ _ _ _).drew⟩
          | exact ⟨_, _, rfl, rfl, by simp, Nat.le_refl _, by (repeat (first | with_reducible (exact Since.refl _) | with_reducible assumption | with_reducible (refine Since.drew ?_) | with_reducible (refine Since.drewN ?_ _) | with_reducible (refine Since.alloc ?_ _) | (with_reducible (refine Since.setCell ?_ ?_ _); rotate_left; focus (first | (simp; done) | (simp; omega) | omega)) | (with_reducible (refine Since.trans ?_ (by with_reducible assumption))))), (krow _ _ (by simp) _ _ _ _).drew, ((krow wr0 _ rfl _ _ _ _).alloc _).drew⟩
      obtain ⟨p, q, rfl, rfl, hp, hq, hS1, rK, rN⟩ := hcut
      have hS := hS.trans hS1
      have rH := rH.since hS1
      have hO := hO.since hS1
      have hz1 := hS1.below.size
      have hbh1 : bh < wc.heap.size := rH.2.2
      clear hS1 k1 k2 k3 m1 m2 m3 hbw u1 u2 u3 u4
      obtain ⟨k1, k2, k3, k4⟩ := kcells rK
      obtain ⟨m1, m2, m3, m4⟩ := kcells rN
      obtain ⟨h1, h2, h3⟩ := pcells rH
      cases hok : O k
      · rw [hok] at k3
        cases hom : O m
        · rw [hom] at m3
          rw [hok, hom] at HS
          simp only [if_false, Bool.false_eq_true] at HS
          have hM := fun w => ou_mid xk yk xm ym hik hin w
          unfold Pt at hM
          generalize mid xk xm = mx at *
          generalize mid yk ym = my at *
          have HM := Lib.hid hM
          clear hM
          go_wp2_with fail
          refine wp_named fun wa hwa => ?_
          obtain rfl := hwa
          go_cut [9] (fun z wx => ∃ r : Nat, z = .pointer (some ⟨r, 0, none⟩) ∧ wa.heap.size ≤ r ∧ Since wa wx ∧ Row wx r 7 (Sf ⟨hx, hy, 0, 0, xm, ym, true⟩))
          case first =>
            clear rH rK rN hO hS HS HX HC HI HF HST hmax
            (refine wp_named fun wr7 hwr7 => ?_; go_region_held3 (fun w' => (∀ b o, b < wr7.heap.size → w'.cell? ⟨b, o, none⟩ = wr7.cell? ⟨b, o, none⟩) ∧ (∀ b o, b < wr7.heap.size → w'.frozen? ⟨b, o, none⟩ = wr7.frozen? ⟨b, o, none⟩) ∧ (∀ k, k < wr7.heap.size → k < w'.heap.size) ∧ Below wr7.heap.size wr7 w') ((subst hwr7; (repeat (with_reducible (refine since_put ?_ ?_ _); rotate_left; focus (first | (simp; done) | (simp; omega) | omega))); first | with_reducible assumption | (refine since_step (by with_reducible assumption) ?_; first | with_reducible assumption | ((repeat (first | with_reducible (exact Since.refl _) | with_reducible assumption | with_reducible (refine Since.drew ?_) | with_reducible (refine Since.drewN ?_ _) | with_reducible (refine Since.alloc ?_ _) | (with_reducible (refine Since.setCell ?_ ?_ _); rotate_left; focus (first | (simp; done) | (simp; omega) | omega)))); done)) | (refine since_step (Since.refl _) ?_; first | with_reducible assumption | ((repeat (first | with_reducible (exact Since.refl _) | with_reducible assumption | with_reducible (refine Since.drew ?_) | with_reducible (refine Since.drewN ?_ _) | with_reducible (refine Since.alloc ?_ _) | (with_reducible (refine Since.setCell ?_ ?_ _); rotate_left; focus (first | (simp; done) | (simp; omega) | omega)) | (with_reducible (refine Since.trans ?_ (by with_reducible assumption))))); done)))) (first | (go_at_call 48; (with_reducible refine (HP.out _ _ _ _).mono ?_); rintro e w8 ⟨rfl, hS8⟩; have hT8 := hS8; obtain ⟨hc8, hf8, hz8, hb8⟩ := hT8; have hZ8 := hS8.below.size; (try simp at hZ8); (try have hq8 := hz8 wa.heap.size (by first | with_reducible assumption | (simp; done) | (simp; omega))))); all_goals (rename_i hHeld; have hR7 : Since wr7 _ := hHeld; obtain ⟨hcR7, hfR7, hzR7, hbR7⟩ := hHeld; subst hwr7))
            all_goals (go_wp2_with fail)
            all_goals go_meet
            all_goals refine ⟨_, rfl, ?_, ?_, ?_⟩
            any_goals ((show _ ≤ _); first | omega | (simp; omega))
            any_goals ((show Since _ _); (repeat (first | with_reducible (exact Since.refl _) | with_reducible assumption | with_reducible (refine Since.drew ?_) | with_reducible (refine Since.drewN ?_ _) | with_reducible (refine Since.alloc ?_ _) | (with_reducible (refine Since.setCell ?_ ?_ _); rotate_left; focus (first | (simp; done) | (simp; omega) | omega)) | (with_reducible (refine Since.trans ?_ (by with_reducible assumption))))); done)
            all_goals (repeat (first | with_reducible assumption | (with_reducible (refine srow _ _ ?_ _ ⟨hx, hy, 0, 0, xm, ym, true⟩); focus (first | with_reducible rfl | (simp; done))) | (with_reducible (refine srow _ _ ?_ _ ⟨0, 0, 0, 0, 0, 0, false⟩); focus (first | with_reducible rfl | (simp; done))) | with_reducible (refine sput (s0 := ⟨0, 0, 0, 0, 0, 0, false⟩) ?_ ⟨hx, hy, 0, 0, xm, ym, true⟩) | with_reducible (refine Row.drew ?_) | with_reducible (refine Row.alloc ?_ _) | with_reducible (refine Row.since ?_ hS8)))
          obtain ⟨r, rfl, hr, hS1, rS⟩ := hcut
          have hq1 : q ≠ r := by have := rN.2.2; omega
          have hq2 : r ≠ q := fun e => hq1 e.symm
          have hp1 : p ≠ r := by have := rK.2.2; omega
          have hp2 : r ≠ p := fun e => hp1 e.symm
          have hS0 := hS
          have rH0 := rH
          have hO0 := hO
          have rS0 := True.intro
          have HSA := Lib.hid hS1
          have hS := hS.trans hS1
          have rH := rH.since hS1
          have hO := hO.since hS1
          have rK := rK.since hS1
          have rN := rN.since hS1
          have hne : bh ≠ r := by omega
          have hz2 := hS1.below.size
          clear hS1 k1 k2 k3 k4 m1 m2 m3 m4 h1 h2 h3
          obtain ⟨k1, k2, k3, k4⟩ := kcells rK
          obtain ⟨m1, m2, m3, m4⟩ := kcells rN
          obtain ⟨h1, h2, h3⟩ := pcells rH
          obtain ⟨s1, s2, s3, s4, s5, s6, s7, s8⟩ := scells rS
          simp only at s1 s2 s3 s4 s5 s6 s7
          have z0 := rH.2.1 0
          have z1 := rH.2.1 1
          have hSa := HSA.out
          go_upto_if 75 with fail
          go_cut [] (fun wy => Since wa wy ∧ Row wy r 7 (Sf ⟨hx, hy, xk, yk, mx, my, true⟩))
          case first =>
            go_wp2_with (first | (go_at_call 48; (with_reducible refine (HP.out _ _ _ _).mono ?_); rintro e w8 ⟨rfl, hS8⟩; have hK8 := hSa.trans hS8; have rS8 := rS.since hS8; have rN8 := rN.since hS8; clear s1 s2 s3 s4 s5 s6 s7 s8 m1 m2 m3 m4; obtain ⟨s1, s2, s3, s4, s5, s6, s7, s8⟩ := scells rS8; (simp only at s1 s2 s3 s4 s5 s6 s7); obtain ⟨m1, m2, m3, m4⟩ := kcells rN8; have y2 := rS8.2.1 2; have y3 := rS8.2.1 3; have y4 := rS8.2.1 4; have y5 := rS8.2.1 5) | (go_at_call 19; (with_reducible refine (HM.out _).mono ?_); rintro e w9 ⟨rfl, hS9⟩; have hK9 := ((hK8.setCell hr (.int .i64 xk)).setCell hr (.int .i64 yk)).trans hS9; have rS9 := (sput2 rS8 xk yk).since hS9; clear s1 s2 s3 s4 s5 s6 s7 s8; obtain ⟨s1, s2, s3, s4, s5, s6, s7, s8⟩ := scells rS9; (simp only at s1 s2 s3 s4 s5 s6 s7); have y4 := rS9.2.1 4; have y5 := rS9.2.1 5))
            go_meet
            exact ⟨(hK9.setCell hr _).setCell hr _, sput4 rS9 _ _⟩
          obtain ⟨hS1, rS⟩ := hcut
          clear s1 s2 s3 s4 s5 s6 s7 s8 hSa
          have hS := hS0.trans hS1
          have rH := rH0.since hS1
          have hO := hO0.since hS1
          obtain ⟨h1, h2, h3⟩ := pcells rH
          obtain ⟨s1, s2, s3, s4, s5, s6, s7, s8⟩ := scells rS
          simp only at s1 s2 s3 s4 s5 s6 s7
          have z0 := rH.2.1 0
          have z1 := rH.2.1 1
          have hE0 : sgOk ⟨hx, hy, xk, yk, mx, my, true⟩ = (!(hx == mx && hy == my) || !(xk == hx && yk == hy)) := by unfold sgOk; simp
          clear hE0 hS1 rS0
          by_cases e1 : hx = mx
          · by_cases e2 : hy = my
            · subst e1 e2
              by_cases e4 : hx = xk
              · by_cases e5 : hy = yk
                · subst e4 e5
                  have hE : (!(hx == hx && hy == hy) || (true && !(hx == hx && hy == hy))) = false := by simp
                  have HE := Lib.hid hE
                  clear hE
                  go_wp2_with fail
                  go_roundg (gk - 1)
                  case measure => omega
                  case rel =>
                    refine ⟨i + 1, by omega, by go_num, ?_, ?_, ?_⟩
                    · rw [HS.out]; simp only; unfold addS sgOk; simp only [HE.out]; exact hO.far (by omega) _ _ _ _
                    · rw [HS.out]; exact pput rH hx hy
                    · exact (hS.setCell (by omega) _).setCell (by omega) _
                · subst e4
                  have e6 : (yk == hy) = false := by simp; omega
                  have hE : (!(hx == hx && hy == hy) || (true && !(hx == hx && yk == hy))) = true := by simp [e6]
                  have HE := Lib.hid hE
                  clear hE e5
                  go_upto_region 20 with fail
                  refine wp_named fun wb hwb => ?_
                  have hT7 : Since w wb := by subst hwb; exact (hS.setCell (by omega) _).setCell (by omega) _
                  have hO7 := (show OwnS wb (bh + 1) _ L by subst hwb; exact hO.far (by omega) 0 1 (.int .i64 hx) (.int .i64 hy))
                  have rH7 : Row wb bh 2 (Pf hx hy) := by subst hwb; exact pput rH hx hy
                  have rS7 : Row wb r 7 (Sf ⟨hx, hy, hx, yk, hx, hy, true⟩) := by subst hwb; exact (rS.far hne 0 _).far hne 1 _
                  clear hwb s1 s2 s3 s4 s5 s6 s7 s8 h1 h2 h3 z0 z1
                  obtain ⟨s1, s2, s3, s4, s5, s6, s7, s8⟩ := scells rS7
                  simp only at s1 s2 s3 s4 s5 s6 s7
                  have hbase : bh + 1 ≤ wb.heap.size := rH7.2.2
                  go_wp2_with (at_builtin; refine wpList_append_seg rfl _ _ rfl (bh + 1) _ L rfl (hO7.alloc _) _ 1 ⟨hx, hy, hx, yk, hx, hy, true⟩ rfl (seg_new wb _ rfl ⟨hx, hy, hx, yk, hx, hy, true⟩ _) (by omega) (by simp; omega) ?_; intro v7 w7 hO8 hg7 hb7)
                  go_roundg (gk - 1)
                  case measure => omega
                  case rel =>
                    refine ⟨i + 1, by omega, by go_num, ?_, ?_, ?_⟩
                    · rw [HS.out]; simp only; unfold addS sgOk; simp only [HE.out]; exact hO8
                    · rw [HS.out]; exact (rH7.alloc _).grownO hg7 (fun e => by have := hb7 _ e; omega)
                    · exact since_grown (hT7.alloc _) hg7 (fun q hq => by have := hb7 _ hq; omega)
              · have e6 : (xk == hx) = false := by simp; omega
                have hE : (!(hx == hx && hy == hy) || (true && !(xk == hx && yk == hy))) = true := by simp [e6]
                have HE := Lib.hid hE
                clear hE e4
                go_upto_region 20 with fail
                refine wp_named fun wb hwb => ?_
                have hT7 : Since w wb := by subst hwb; exact (hS.setCell (by omega) _).setCell (by omega) _
                have hO7 := (show OwnS wb (bh + 1) _ L by subst hwb; exact hO.far (by omega) 0 1 (.int .i64 hx) (.int .i64 hy))
                have rH7 : Row wb bh 2 (Pf hx hy) := by subst hwb; exact pput rH hx hy
                have rS7 : Row wb r 7 (Sf ⟨hx, hy, xk, yk, hx, hy, true⟩) := by subst hwb; exact (rS.far hne 0 _).far hne 1 _
                clear hwb s1 s2 s3 s4 s5 s6 s7 s8 h1 h2 h3 z0 z1
                obtain ⟨s1, s2, s3, s4, s5, s6, s7, s8⟩ := scells rS7
                simp only at s1 s2 s3 s4 s5 s6 s7
                have hbase : bh + 1 ≤ wb.heap.size := rH7.2.2
                go_wp2_with (at_builtin; refine wpList_append_seg rfl _ _ rfl (bh + 1) _ L rfl (hO7.alloc _) _ 1 ⟨hx, hy, xk, yk, hx, hy, true⟩ rfl (seg_new wb _ rfl ⟨hx, hy, xk, yk, hx, hy, true⟩ _) (by omega) (by simp; omega) ?_; intro v7 w7 hO8 hg7 hb7)
                go_roundg (gk - 1)
                case measure => omega
                case rel =>
                  refine ⟨i + 1, by omega, by go_num, ?_, ?_, ?_⟩
                  · rw [HS.out]; simp only; unfold addS sgOk; simp only [HE.out]; exact hO8
                  · rw [HS.out]; exact (rH7.alloc _).grownO hg7 (fun e => by have := hb7 _ e; omega)
                  · exact since_grown (hT7.alloc _) hg7 (fun q hq => by have := hb7 _ hq; omega)
            · subst e1
              have e3 : (hy == my) = false := by simp [e2]
              have hE : (!(hx == hx && hy == my) || (true && !(xk == hx && yk == hy))) = true := by simp [e3]
              have HE := Lib.hid hE
              clear hE
              go_upto_region 20 with fail
              refine wp_named fun wb hwb => ?_
              have hT7 : Since w wb := by subst hwb; exact (hS.setCell (by omega) _).setCell (by omega) _
              have hO7 := (show OwnS wb (bh + 1) _ L by subst hwb; exact hO.far (by omega) 0 1 (.int .i64 hx) (.int .i64 my))
              have rH7 : Row wb bh 2 (Pf hx my) := by subst hwb; exact pput rH hx my
              have rS7 : Row wb r 7 (Sf ⟨hx, hy, xk, yk, hx, my, true⟩) := by subst hwb; exact (rS.far hne 0 _).far hne 1 _
              clear hwb s1 s2 s3 s4 s5 s6 s7 s8 h1 h2 h3 z0 z1
              obtain ⟨s1, s2, s3, s4, s5, s6, s7, s8⟩ := scells rS7
              simp only at s1 s2 s3 s4 s5 s6 s7
              have hbase : bh + 1 ≤ wb.heap.size := rH7.2.2
              go_wp2_with (at_builtin; refine wpList_append_seg rfl _ _ rfl (bh + 1) _ L rfl (hO7.alloc _) _ 1 ⟨hx, hy, xk, yk, hx, my, true⟩ rfl (seg_new wb _ rfl ⟨hx, hy, xk, yk, hx, my, true⟩ _) (by omega) (by simp; omega) ?_; intro v7 w7 hO8 hg7 hb7)
              go_roundg (gk - 1)
              case measure => omega
              case rel =>
                refine ⟨i + 1, by omega, by go_num, ?_, ?_, ?_⟩
                · rw [HS.out]; simp only; unfold addS sgOk; simp only [HE.out]; exact hO8
                · rw [HS.out]; exact (rH7.alloc _).grownO hg7 (fun e => by have := hb7 _ e; omega)
                · exact since_grown (hT7.alloc _) hg7 (fun q hq => by have := hb7 _ hq; omega)
          · have e3 : (hx == mx) = false := by simp [e1]
            have hE : (!(hx == mx && hy == my) || (true && !(xk == hx && yk == hy))) = true := by simp [e3]
            have HE := Lib.hid hE
            clear hE
            go_upto_region 20 with fail
            refine wp_named fun wb hwb => ?_
            have hT7 : Since w wb := by subst hwb; exact (hS.setCell (by omega) _).setCell (by omega) _
            have hO7 := (show OwnS wb (bh + 1) _ L by subst hwb; exact hO.far (by omega) 0 1 (.int .i64 mx) (.int .i64 my))
            have rH7 : Row wb bh 2 (Pf mx my) := by subst hwb; exact pput rH mx my
            have rS7 : Row wb r 7 (Sf ⟨hx, hy, xk, yk, mx, my, true⟩) := by subst hwb; exact (rS.far hne 0 _).far hne 1 _
            clear hwb s1 s2 s3 s4 s5 s6 s7 s8 h1 h2 h3 z0 z1
            obtain ⟨s1, s2, s3, s4, s5, s6, s7, s8⟩ := scells rS7
            simp only at s1 s2 s3 s4 s5 s6 s7
            have hbase : bh + 1 ≤ wb.heap.size := rH7.2.2
            go_wp2_with (at_builtin; refine wpList_append_seg rfl _ _ rfl (bh + 1) _ L rfl (hO7.alloc _) _ 1 ⟨hx, hy, xk, yk, mx, my, true⟩ rfl (seg_new wb _ rfl ⟨hx, hy, xk, yk, mx, my, true⟩ _) (by omega) (by simp; omega) ?_; intro v7 w7 hO8 hg7 hb7)
            go_roundg (gk - 1)
            case measure => omega
            case rel =>
              refine ⟨i + 1, by omega, by go_num, ?_, ?_, ?_⟩
              · rw [HS.out]; simp only; unfold addS sgOk; simp only [HE.out]; exact hO8
              · rw [HS.out]; exact (rH7.alloc _).grownO hg7 (fun e => by have := hb7 _ e; omega)
              · exact since_grown (hT7.alloc _) hg7 (fun q hq => by have := hb7 _ hq; omega)
        · rw [hom] at m3
          rw [hok, hom] at HS
          simp only [eq_self, if_true, if_false, Bool.false_eq_true] at HS
          go_wp2_with fail
          refine wp_named fun wa hwa => ?_
          obtain rfl := hwa
          go_cut [9] (fun z wx => ∃ r : Nat, z = .pointer (some ⟨r, 0, none⟩) ∧ wa.heap.size ≤ r ∧ Since wa wx ∧ Row wx r 7 (Sf ⟨hx, hy, 0, 0, xm, ym, true⟩))
          case first =>
            clear rH rK rN hO hS HS HX HC HI HF HST hmax
            (refine wp_named fun wr7 hwr7 => ?_; go_region_held3 (fun w' => (∀ b o, b < wr7.heap.size → w'.cell? ⟨b, o, none⟩ = wr7.cell? ⟨b, o, none⟩) ∧ (∀ b o, b < wr7.heap.size → w'.frozen? ⟨b, o, none⟩ = wr7.frozen? ⟨b, o, none⟩) ∧ (∀ k, k < wr7.heap.size → k < w'.heap.size) ∧ Below wr7.heap.size wr7 w') ((subst hwr7; (repeat (with_reducible (refine since_put ?_ ?_ _); rotate_left; focus (first | (simp; done) | (simp; omega) | omega))); first | with_reducible assumption | (refine since_step (by with_reducible assumption) ?_; first | with_reducible assumption | ((repeat (first | with_reducible (exact Since.refl _) | with_reducible assumption | with_reducible (refine Since.drew ?_) | with_reducible (refine Since.drewN ?_ _) | with_reducible (refine Since.alloc ?_ _) | (with_reducible (refine Since.setCell ?_ ?_ _); rotate_left; focus (first | (simp; done) | (simp; omega) | omega)))); done)) | (refine since_step (Since.refl _) ?_; first | with_reducible assumption | ((repeat (first | with_reducible (exact Since.refl _) | with_reducible assumption | with_reducible (refine Since.drew ?_) | with_reducible (refine Since.drewN ?_ _) | with_reducible (refine Since.alloc ?_ _) | (with_reducible (refine Since.setCell ?_ ?_ _); rotate_left; focus (first | (simp; done) | (simp; omega) | omega)) | (with_reducible (refine Since.trans ?_ (by with_reducible assumption))))); done)))) (first | (go_at_call 48; (with_reducible refine (HP.out _ _ _ _).mono ?_); rintro e w8 ⟨rfl, hS8⟩; have hT8 := hS8; obtain ⟨hc8, hf8, hz8, hb8⟩ := hT8; have hZ8 := hS8.below.size; (try simp at hZ8); (try have hq8 := hz8 wa.heap.size (by first | with_reducible assumption | (simp; done) | (simp; omega))))); all_goals (rename_i hHeld; have hR7 : Since wr7 _ := hHeld; obtain ⟨hcR7, hfR7, hzR7, hbR7⟩ := hHeld; subst hwr7))
            all_goals (go_wp2_with fail)
            all_goals go_meet
            all_goals refine ⟨_, rfl, ?_, ?_, ?_⟩
            any_goals ((show _ ≤ _); first | omega | (simp; omega))
            any_goals ((show Since _ _); (repeat (first | with_reducible (exact Since.refl _) | with_reducible assumption | with_reducible (refine Since.drew ?_) | with_reducible (refine Since.drewN ?_ _) | with_reducible (refine Since.alloc ?_ _) | (with_reducible (refine Since.setCell ?_ ?_ _); rotate_left; focus (first | (simp; done) | (simp; omega) | omega)) | (with_reducible (refine Since.trans ?_ (by with_reducible assumption))))); done)
            all_goals (repeat (first | with_reducible assumption | (with_reducible (refine srow _ _ ?_ _ ⟨hx, hy, 0, 0, xm, ym, true⟩); focus (first | with_reducible rfl | (simp; done))) | (with_reducible (refine srow _ _ ?_ _ ⟨0, 0, 0, 0, 0, 0, false⟩); focus (first | with_reducible rfl | (simp; done))) | with_reducible (refine sput (s0 := ⟨0, 0, 0, 0, 0, 0, false⟩) ?_ ⟨hx, hy, 0, 0, xm, ym, true⟩) | with_reducible (refine Row.drew ?_) | with_reducible (refine Row.alloc ?_ _) | with_reducible (refine Row.since ?_ hS8)))
          obtain ⟨r, rfl, hr, hS1, rS⟩ := hcut
          have hq1 : q ≠ r := by have := rN.2.2; omega
          have hq2 : r ≠ q := fun e => hq1 e.symm
          have hp1 : p ≠ r := by have := rK.2.2; omega
          have hp2 : r ≠ p := fun e => hp1 e.symm
          have hS0 := hS
          have rH0 := rH
          have hO0 := hO
          have rS0 := True.intro
          have HSA := Lib.hid hS1
          have hS := hS.trans hS1
          have rH := rH.since hS1
          have hO := hO.since hS1
          have rK := rK.since hS1
          have rN := rN.since hS1
          have hne : bh ≠ r := by omega
          have hz2 := hS1.below.size
          clear hS1 k1 k2 k3 k4 m1 m2 m3 m4 h1 h2 h3
          obtain ⟨k1, k2, k3, k4⟩ := kcells rK
          obtain ⟨m1, m2, m3, m4⟩ := kcells rN
          obtain ⟨h1, h2, h3⟩ := pcells rH
          obtain ⟨s1, s2, s3, s4, s5, s6, s7, s8⟩ := scells rS
          simp only at s1 s2 s3 s4 s5 s6 s7
          have z0 := rH.2.1 0
          have z1 := rH.2.1 1
          have hSa := HSA.out
          go_upto_if 75 with fail
          go_cut [] (fun wy => Since wa wy ∧ Row wy r 7 (Sf ⟨hx, hy, xk, yk, xm, ym, true⟩))
          case first =>
            go_wp2_with (go_at_call 48; (with_reducible refine (HP.out _ _ _ _).mono ?_); rintro e w8 ⟨rfl, hS8⟩; have hK8 := hSa.trans hS8; have rS8 := rS.since hS8; have rN8 := rN.since hS8; clear s1 s2 s3 s4 s5 s6 s7 s8 m1 m2 m3 m4; obtain ⟨s1, s2, s3, s4, s5, s6, s7, s8⟩ := scells rS8; (simp only at s1 s2 s3 s4 s5 s6 s7); obtain ⟨m1, m2, m3, m4⟩ := kcells rN8; have y2 := rS8.2.1 2; have y3 := rS8.2.1 3; have y4 := rS8.2.1 4; have y5 := rS8.2.1 5)
            go_meet
            exact ⟨(hK8.setCell hr _).setCell hr _, sput2 rS8 _ _⟩
          obtain ⟨hS1, rS⟩ := hcut
          clear s1 s2 s3 s4 s5 s6 s7 s8 hSa
          have hS := hS0.trans hS1
          have rH := rH0.since hS1
          have hO := hO0.since hS1
          obtain ⟨h1, h2, h3⟩ := pcells rH
          obtain ⟨s1, s2, s3, s4, s5, s6, s7, s8⟩ := scells rS
          simp only at s1 s2 s3 s4 s5 s6 s7
          have z0 := rH.2.1 0
          have z1 := rH.2.1 1
          have hE0 : sgOk ⟨hx, hy, xk, yk, xm, ym, true⟩ = (!(hx == xm && hy == ym) || !(xk == hx && yk == hy)) := by unfold sgOk; simp
          clear hE0 hS1 rS0
          by_cases e1 : hx = xm
          · by_cases e2 : hy = ym
            · subst e1 e2
              by_cases e4 : hx = xk
              · by_cases e5 : hy = yk
                · subst e4 e5
                  have hE : (!(hx == hx && hy == hy) || (true && !(hx == hx && hy == hy))) = false := by simp
                  have HE := Lib.hid hE
                  clear hE
                  go_wp2_with fail
                  go_roundg (gk - 1)
                  case measure => omega
                  case rel =>
                    refine ⟨i + 1, by omega, by go_num, ?_, ?_, ?_⟩
                    · rw [HS.out]; simp only; unfold addS sgOk; simp only [HE.out]; exact hO.far (by omega) _ _ _ _
                    · rw [HS.out]; exact pput rH hx hy
                    · exact (hS.setCell (by omega) _).setCell (by omega) _
                · subst e4
                  have e6 : (yk == hy) = false := by simp; omega
                  have hE : (!(hx == hx && hy == hy) || (true && !(hx == hx && yk == hy))) = true := by simp [e6]
                  have HE := Lib.hid hE
                  clear hE e5
                  go_upto_region 20 with fail
                  refine wp_named fun wb hwb => ?_
                  have hT7 : Since w wb := by subst hwb; exact (hS.setCell (by omega) _).setCell (by omega) _
                  have hO7 := (show OwnS wb (bh + 1) _ L by subst hwb; exact hO.far (by omega) 0 1 (.int .i64 hx) (.int .i64 hy))
                  have rH7 : Row wb bh 2 (Pf hx hy) := by subst hwb; exact pput rH hx hy
                  have rS7 : Row wb r 7 (Sf ⟨hx, hy, hx, yk, hx, hy, true⟩) := by subst hwb; exact (rS.far hne 0 _).far hne 1 _
                  clear hwb s1 s2 s3 s4 s5 s6 s7 s8 h1 h2 h3 z0 z1
                  obtain ⟨s1, s2, s3, s4, s5, s6, s7, s8⟩ := scells rS7
                  simp only at s1 s2 s3 s4 s5 s6 s7
                  have hbase : bh + 1 ≤ wb.heap.size := rH7.2.2
                  go_wp2_with (at_builtin; refine wpList_append_seg rfl _ _ rfl (bh + 1) _ L rfl (hO7.alloc _) _ 1 ⟨hx, hy, hx, yk, hx, hy, true⟩ rfl (seg_new wb _ rfl ⟨hx, hy, hx, yk, hx, hy, true⟩ _) (by omega) (by simp; omega) ?_; intro v7 w7 hO8 hg7 hb7)
                  go_roundg (gk - 1)
                  case measure => omega
                  case rel =>
                    refine ⟨i + 1, by omega, by go_num, ?_, ?_, ?_⟩
                    · rw [HS.out]; simp only; unfold addS sgOk; simp only [HE.out]; exact hO8
                    · rw [HS.out]; exact (rH7.alloc _).grownO hg7 (fun e => by have := hb7 _ e; omega)
                    · exact since_grown (hT7.alloc _) hg7 (fun q hq => by have := hb7 _ hq; omega)
              · have e6 : (xk == hx) = false := by simp; omega
                have hE : (!(hx == hx && hy == hy) || (true && !(xk == hx && yk == hy))) = true := by simp [e6]
                have HE := Lib.hid hE
                clear hE e4
                go_upto_region 20 with fail
                refine wp_named fun wb hwb => ?_
                have hT7 : Since w wb := by subst hwb; exact (hS.setCell (by omega) _).setCell (by omega) _
                have hO7 := (show OwnS wb (bh + 1) _ L by subst hwb; exact hO.far (by omega) 0 1 (.int .i64 hx) (.int .i64 hy))
                have rH7 : Row wb bh 2 (Pf hx hy) := by subst hwb; exact pput rH hx hy
                have rS7 : Row wb r 7 (Sf ⟨hx, hy, xk, yk, hx, hy, true⟩) := by subst hwb; exact (rS.far hne 0 _).far hne 1 _
                clear hwb s1 s2 s3 s4 s5 s6 s7 s8 h1 h2 h3 z0 z1
                obtain ⟨s1, s2, s3, s4, s5, s6, s7, s8⟩ := scells rS7
                simp only at s1 s2 s3 s4 s5 s6 s7
                have hbase : bh + 1 ≤ wb.heap.size := rH7.2.2
                go_wp2_with (at_builtin; refine wpList_append_seg rfl _ _ rfl (bh + 1) _ L rfl (hO7.alloc _) _ 1 ⟨hx, hy, xk, yk, hx, hy, true⟩ rfl (seg_new wb _ rfl ⟨hx, hy, xk, yk, hx, hy, true⟩ _) (by omega) (by simp; omega) ?_; intro v7 w7 hO8 hg7 hb7)
                go_roundg (gk - 1)
                case measure => omega
                case rel =>
                  refine ⟨i + 1, by omega, by go_num, ?_, ?_, ?_⟩
                  · rw [HS.out]; simp only; unfold addS sgOk; simp only [HE.out]; exact hO8
                  · rw [HS.out]; exact (rH7.alloc _).grownO hg7 (fun e => by have := hb7 _ e; omega)
                  · exact since_grown (hT7.alloc _) hg7 (fun q hq => by have := hb7 _ hq; omega)
            · subst e1
              have e3 : (hy == ym) = false := by simp [e2]
              have hE : (!(hx == hx && hy == ym) || (true && !(xk == hx && yk == hy))) = true := by simp [e3]
              have HE := Lib.hid hE
              clear hE
              go_upto_region 20 with fail
              refine wp_named fun wb hwb => ?_
              have hT7 : Since w wb := by subst hwb; exact (hS.setCell (by omega) _).setCell (by omega) _
              have hO7 := (show OwnS wb (bh + 1) _ L by subst hwb; exact hO.far (by omega) 0 1 (.int .i64 hx) (.int .i64 ym))
              have rH7 : Row wb bh 2 (Pf hx ym) := by subst hwb; exact pput rH hx ym
              have rS7 : Row wb r 7 (Sf ⟨hx, hy, xk, yk, hx, ym, true⟩) := by subst hwb; exact (rS.far hne 0 _).far hne 1 _
              clear hwb s1 s2 s3 s4 s5 s6 s7 s8 h1 h2 h3 z0 z1
              obtain ⟨s1, s2, s3, s4, s5, s6, s7, s8⟩ := scells rS7
              simp only at s1 s2 s3 s4 s5 s6 s7
              have hbase : bh + 1 ≤ wb.heap.size := rH7.2.2
              go_wp2_with (at_builtin; refine wpList_append_seg rfl _ _ rfl (bh + 1) _ L rfl (hO7.alloc _) _ 1 ⟨hx, hy, xk, yk, hx, ym, true⟩ rfl (seg_new wb _ rfl ⟨hx, hy, xk, yk, hx, ym, true⟩ _) (by omega) (by simp; omega) ?_; intro v7 w7 hO8 hg7 hb7)
              go_roundg (gk - 1)
              case measure => omega
              case rel =>
                refine ⟨i + 1, by omega, by go_num, ?_, ?_, ?_⟩
                · rw [HS.out]; simp only; unfold addS sgOk; simp only [HE.out]; exact hO8
                · rw [HS.out]; exact (rH7.alloc _).grownO hg7 (fun e => by have := hb7 _ e; omega)
                · exact since_grown (hT7.alloc _) hg7 (fun q hq => by have := hb7 _ hq; omega)
          · have e3 : (hx == xm) = false := by simp [e1]
            have hE : (!(hx == xm && hy == ym) || (true && !(xk == hx && yk == hy))) = true := by simp [e3]
            have HE := Lib.hid hE
            clear hE
            go_upto_region 20 with fail
            refine wp_named fun wb hwb => ?_
            have hT7 : Since w wb := by subst hwb; exact (hS.setCell (by omega) _).setCell (by omega) _
            have hO7 := (show OwnS wb (bh + 1) _ L by subst hwb; exact hO.far (by omega) 0 1 (.int .i64 xm) (.int .i64 ym))
            have rH7 : Row wb bh 2 (Pf xm ym) := by subst hwb; exact pput rH xm ym
            have rS7 : Row wb r 7 (Sf ⟨hx, hy, xk, yk, xm, ym, true⟩) := by subst hwb; exact (rS.far hne 0 _).far hne 1 _
            clear hwb s1 s2 s3 s4 s5 s6 s7 s8 h1 h2 h3 z0 z1
            obtain ⟨s1, s2, s3, s4, s5, s6, s7, s8⟩ := scells rS7
            simp only at s1 s2 s3 s4 s5 s6 s7
            have hbase : bh + 1 ≤ wb.heap.size := rH7.2.2
            go_wp2_with (at_builtin; refine wpList_append_seg rfl _ _ rfl (bh + 1) _ L rfl (hO7.alloc _) _ 1 ⟨hx, hy, xk, yk, xm, ym, true⟩ rfl (seg_new wb _ rfl ⟨hx, hy, xk, yk, xm, ym, true⟩ _) (by omega) (by simp; omega) ?_; intro v7 w7 hO8 hg7 hb7)
            go_roundg (gk - 1)
            case measure => omega
            case rel =>
              refine ⟨i + 1, by omega, by go_num, ?_, ?_, ?_⟩
              · rw [HS.out]; simp only; unfold addS sgOk; simp only [HE.out]; exact hO8
              · rw [HS.out]; exact (rH7.alloc _).grownO hg7 (fun e => by have := hb7 _ e; omega)
              · exact since_grown (hT7.alloc _) hg7 (fun q hq => by have := hb7 _ hq; omega)
      · rw [hok] at k3
        cases hom : O m
        · rw [hom] at m3
          go_wp2_with fail
          go_roundg (gk - 1)
          case measure => omega
          case rel =>
            refine ⟨i + 1, by omega, by go_num, ?_, ?_, hS⟩
            · rw [HS.out, hok, hom]; exact hO
            · rw [HS.out, hok, hom]; exact rH
        · rw [hom] at m3
          go_wp2_with fail
          refine wp_named fun wa hwa => ?_
          obtain rfl := hwa
          go_cut [9] (fun z wx => ∃ r : Nat, z = .pointer (some ⟨r, 0, none⟩) ∧ wa.heap.size ≤ r ∧ Since wa wx ∧ Row wx r 7 (Sf ⟨hx, hy, 0, 0, xm, ym, false⟩))
          case first =>
            clear rH rK rN hO hS HS HX HC HI HF HST hmax
            (refine wp_named fun wr7 hwr7 => ?_; go_region_held3 (fun w' => (∀ b o, b < wr7.heap.size → w'.cell? ⟨b, o, none⟩ = wr7.cell? ⟨b, o, none⟩) ∧ (∀ b o, b < wr7.heap.size → w'.frozen? ⟨b, o, none⟩ = wr7.frozen? ⟨b, o, none⟩) ∧ (∀ k, k < wr7.heap.size → k < w'.heap.size) ∧ Below wr7.heap.size wr7 w') ((subst hwr7; (repeat (with_reducible (refine since_put ?_ ?_ _); rotate_left; focus (first | (simp; done) | (simp; omega) | omega))); first | with_reducible assumption | (refine since_step (by with_reducible assumption) ?_; first | with_reducible assumption | ((repeat (first | with_reducible (exact Since.refl _) | with_reducible assumption | with_reducible (refine Since.drew ?_) | with_reducible (refine Since.drewN ?_ _) | with_reducible (refine Since.alloc ?_ _) | (with_reducible (refine Since.setCell ?_ ?_ _); rotate_left; focus (first | (simp; done) | (simp; omega) | omega)))); done)) | (refine since_step (Since.refl _) ?_; first | with_reducible assumption | ((repeat (first | with_reducible (exact Since.refl _) | with_reducible assumption | with_reducible (refine Since.drew ?_) | with_reducible (refine Since.drewN ?_ _) | with_reducible (refine Since.alloc ?_ _) | (with_reducible (refine Since.setCell ?_ ?_ _); rotate_left; focus (first | (simp; done) | (simp; omega) | omega)) | (with_reducible (refine Since.trans ?_ (by with_reducible assumption))))); done)))) (first | (go_at_call 48; (with_reducible refine (HP.out _ _ _ _).mono ?_); rintro e w8 ⟨rfl, hS8⟩; have hT8 := hS8; obtain ⟨hc8, hf8, hz8, hb8⟩ := hT8; have hZ8 := hS8.below.size; (try simp at hZ8); (try have hq8 := hz8 wa.heap.size (by first | with_reducible assumption | (simp; done) | (simp; omega))))); all_goals (rename_i hHeld; have hR7 : Since wr7 _ := hHeld; obtain ⟨hcR7, hfR7, hzR7, hbR7⟩ := hHeld; subst hwr7))
            all_goals (go_wp2_with fail)
            all_goals go_meet
            all_goals refine ⟨_, rfl, ?_, ?_, ?_⟩
            any_goals ((show _ ≤ _); first | omega | (simp; omega))
            any_goals ((show Since _ _); (repeat (first | with_reducible (exact Since.refl _) | with_reducible assumption | with_reducible (refine Since.drew ?_) | with_reducible (refine Since.drewN ?_ _) | with_reducible (refine Since.alloc ?_ _) | (with_reducible (refine Since.setCell ?_ ?_ _); rotate_left; focus (first | (simp; done) | (simp; omega) | omega)) | (with_reducible (refine Since.trans ?_ (by with_reducible assumption))))); done)
            all_goals (repeat (first | with_reducible assumption | (with_reducible (refine srow _ _ ?_ _ ⟨hx, hy, 0, 0, xm, ym, false⟩); focus (first | with_reducible rfl | (simp; done))) | (with_reducible (refine srow _ _ ?_ _ ⟨0, 0, 0, 0, 0, 0, false⟩); focus (first | with_reducible rfl | (simp; done))) | with_reducible (refine sput (s0 := ⟨0, 0, 0, 0, 0, 0, false⟩) ?_ ⟨hx, hy, 0, 0, xm, ym, false⟩) | with_reducible (refine Row.drew ?_) | with_reducible (refine Row.alloc ?_ _) | with_reducible (refine Row.since ?_ hS8)))
          obtain ⟨r, rfl, hr, hS1, rS⟩ := hcut
          have hS := hS.trans hS1
          have rH := rH.since hS1
          have hO := hO.since hS1
          have rK := rK.since hS1
          have rN := rN.since hS1
          have hne : bh ≠ r := by omega
          have hz2 := hS1.below.size
          clear hS1 k1 k2 k3 k4 m1 m2 m3 m4 h1 h2 h3
          obtain ⟨k1, k2, k3, k4⟩ := kcells rK
          obtain ⟨m1, m2, m3, m4⟩ := kcells rN
          obtain ⟨h1, h2, h3⟩ := pcells rH
          obtain ⟨s1, s2, s3, s4, s5, s6, s7, s8⟩ := scells rS
          simp only at s1 s2 s3 s4 s5 s6 s7
          have z0 := rH.2.1 0
          have z1 := rH.2.1 1
          by_cases e1 : hx = xm
          · by_cases e2 : hy = ym
            · subst e1 e2
              go_wp2_with fail
              go_roundg (gk - 1)
              case measure => omega
              case rel =>
                refine ⟨i + 1, by omega, by go_num, ?_, ?_, ?_⟩
                · rw [HS.out, hok, hom]; simp only [if_true]; unfold addS sgOk; simp; exact hO.far (by omega) _ _ _ _
                · rw [HS.out, hok, hom]; simp only [if_true]; exact pput rH hx hy
                · exact (hS.setCell (by omega) _).setCell (by omega) _
            · subst e1
              have hE : (hx == hx && hy == ym) = false := by simp [e2]
              have HE := Lib.hid hE
              have e3 : (hy == ym) = false := by simp [e2]
              clear hE
              go_upto_region 20 with fail
              refine wp_named fun wb hwb => ?_
              have hT7 : Since w wb := by subst hwb; exact (hS.setCell (by omega) _).setCell (by omega) _
              have hO7 := (show OwnS wb (bh + 1) _ L by subst hwb; exact hO.far (by omega) 0 1 (.int .i64 hx) (.int .i64 ym))
              have rH7 : Row wb bh 2 (Pf hx ym) := by subst hwb; exact pput rH hx ym
              have rS7 : Row wb r 7 (Sf ⟨hx, hy, 0, 0, hx, ym, false⟩) := by subst hwb; exact (rS.far hne 0 _).far hne 1 _
              clear hwb s1 s2 s3 s4 s5 s6 s7 s8 h1 h2 h3 k1 k2 k3 k4 m1 m2 m3 m4 z0 z1
              obtain ⟨s1, s2, s3, s4, s5, s6, s7, s8⟩ := scells rS7
              simp only at s1 s2 s3 s4 s5 s6 s7
              have hbase : bh + 1 ≤ wb.heap.size := rH7.2.2
              go_wp2_with (at_builtin; refine wpList_append_seg rfl _ _ rfl (bh + 1) _ L rfl (hO7.alloc _) _ 1 ⟨hx, hy, 0, 0, hx, ym, false⟩ rfl (seg_new wb _ rfl ⟨hx, hy, 0, 0, hx, ym, false⟩ _) (by omega) (by simp; omega) ?_; intro v7 w7 hO8 hg7 hb7)
              go_roundg (gk - 1)
              case measure => omega
              case rel =>
                refine ⟨i + 1, by omega, by go_num, ?_, ?_, ?_⟩
                · rw [HS.out, hok, hom]; simp only [if_true]; unfold addS sgOk; simp only [HE.out]; exact hO8
                · rw [HS.out, hok, hom]; simp only [if_true]; exact (rH7.alloc _).grownO hg7 (fun e => by have := hb7 _ e; omega)
                · exact since_grown (hT7.alloc _) hg7 (fun q hq => by have := hb7 _ hq; omega)
          · have hE : (hx == xm && hy == ym) = false := by simp [e1]
            have HE := Lib.hid hE
            have e3 : (hx == xm) = false := by simp [e1]
            clear hE
            go_upto_region 20 with fail
            refine wp_named fun wb hwb => ?_
            have hT7 : Since w wb := by subst hwb; exact (hS.setCell (by omega) _).setCell (by omega) _
            have hO7 := (show OwnS wb (bh + 1) _ L by subst hwb; exact hO.far (by omega) 0 1 (.int .i64 xm) (.int .i64 ym))
            have rH7 : Row wb bh 2 (Pf xm ym) := by subst hwb; exact pput rH xm ym
            have rS7 : Row wb r 7 (Sf ⟨hx, hy, 0, 0, xm, ym, false⟩) := by subst hwb; exact (rS.far hne 0 _).far hne 1 _
            clear hwb s1 s2 s3 s4 s5 s6 s7 s8 h1 h2 h3 k1 k2 k3 k4 m1 m2 m3 m4 z0 z1
            obtain ⟨s1, s2, s3, s4, s5, s6, s7, s8⟩ := scells rS7
            simp only at s1 s2 s3 s4 s5 s6 s7
            have hbase : bh + 1 ≤ wb.heap.size := rH7.2.2
            go_wp2_with (at_builtin; refine wpList_append_seg rfl _ _ rfl (bh + 1) _ L rfl (hO7.alloc _) _ 1 ⟨hx, hy, 0, 0, xm, ym, false⟩ rfl (seg_new wb _ rfl ⟨hx, hy, 0, 0, xm, ym, false⟩ _) (by omega) (by simp; omega) ?_; intro v7 w7 hO8 hg7 hb7)
            go_roundg (gk - 1)
            case measure => omega
            case rel =>
              refine ⟨i + 1, by omega, by go_num, ?_, ?_, ?_⟩
              · rw [HS.out, hok, hom]; simp only [if_true]; unfold addS sgOk; simp only [HE.out]; exact hO8
              · rw [HS.out, hok, hom]; simp only [if_true]; exact (rH7.alloc _).grownO hg7 (fun e => by have := hb7 _ e; omega)
              · exact since_grown (hT7.alloc _) hg7 (fun q hq => by have := hb7 _ hq; omega)
    · obtain rfl : i = n := by omega
      go_wp2_with fail
      go_ret
      refine ⟨_, bh + 1, rfl, by omega, ?_, hS⟩
      have e : segsL i X Y O = (runS f i X Y O st i).2 := by unfold segsL; rw [if_neg (by omega), HF.out, HST.out]
      rw [e]
      exact hO
end Go.Proofs.Ytdbenpncnkfliaa

/-
  Layer 11: 'Segs' of any contour; pieces as they read; the reference's 'Same'; literal contours.
-/
namespace Go.Proofs.Ytdbenpncnkfliaa
open Go.RowKit
set_option linter.unusedVariables false

theorem ou_segs (A : Option Addr) (n c : Nat) (X Y : Nat → Int) (O : Nat → Bool) (w : World) (h : RdK w w.heap.size A n X Y O) (hX : ∀ j, j < n → InP (X j) (Y j)) (hn : n ≤ 1000000) :
    Calls Try.prog 15 #[.slice A n c] w (SegsOut w (segsL n X Y O)) := by
  rcases Nat.eq_zero_or_pos n with rfl | hn0
  · exact ou_segs_nil A c X Y O w
  · exact ou_segs_pos A n c X Y O w h hX hn0 hn
/-- Are two pieces the same? -/
def sgEq (s t : Sg) : Bool := (s.ax == t.ax && s.ay == t.ay) && ((s.cx == t.cx && s.cy == t.cy) && ((s.bx == t.bx && s.bz == t.bz) && s.k == t.k))
theorem eq_segs (w : World) (s t : Sg) : (Op.equalIn 10000 37 s.v t.v).run Try.prog w = .ok (sgEq s t) w := by
  obtain ⟨a0, a1, a2, a3, a4, a5, ak⟩ := s
  obtain ⟨b0, b1, b2, b3, b4, b5, bk⟩ := t
  unfold Sg.v sgEq
  simp only
  rw [run_equalIn_struct w 9999 37 _ _ (by kernel_rfl) (by kernel_rfl)]
  have heq : ∀ (d : Nat) (a b : Int) (w : World), (Op.equalIn (d + 1) 3 (.int .i64 a) (.int .i64 b)).run Try.prog w = .ok (a == b) w := fun d a b w => run_equalIn_int w d _ _ _ a b Try.underlying3
  have hc : Try.prog.cellsOf 3 = 1 := by kernel_rfl
  have hcp : Try.prog.cellsOf 33 = 2 := by kernel_rfl
  have hcb : Try.prog.cellsOf 4 = 1 := by kernel_rfl
  have heqb : ∀ (d : Nat) (a b : Bool) (w : World), (Op.equalIn (d + 1) 4 (.bool a) (.bool b)).run Try.prog w = .ok (a == b) w := fun d a b w => by simp [Op.equalIn, run_underlying Try.underlying4]
  have hep : ∀ (x y u v : Int) (w : World), (Op.equalIn 9999 33 (.agg #[.int .i64 x, .int .i64 y]) (.agg #[.int .i64 u, .int .i64 v])).run Try.prog w = .ok (x == u && y == v) w := by
    intro x y u v w
    rw [run_equalIn_struct w 9998 33 _ _ (by kernel_rfl) (by kernel_rfl)]
    simp only [Program.fieldsOf, Try.underlying33]
    by_cases h1 : x = u <;> by_cases h2 : y = v <;> simp [go_sem, h1, h2]
  simp only [Program.fieldsOf, Try.underlying37]
  cases h1 : (a0 == b0 && a1 == b1) <;> cases h2 : (a2 == b2 && a3 == b3) <;> cases h3 : (a4 == b4 && a5 == b5) <;> by_cases h4 : ak = bk <;> simp [go_sem, hep, heqb, h1, h2, h3, h4]
theorem eq_seg (w : World) (a0 a1 a2 a3 a4 a5 : Int) (ak : Bool) : (Op.equalIn 10000 37 (.agg #[.int .i64 a0, .int .i64 a1, .int .i64 a2, .int .i64 a3, .int .i64 a4, .int .i64 a5, .bool ak]) (.agg #[.int .i64 a0, .int .i64 a1, .int .i64 a2, .int .i64 a3, .int .i64 a4, .int .i64 a5, .bool ak])).run Try.prog w = .ok true w := by
  rw [run_equalIn_struct w 9999 37 _ _ (by kernel_rfl) (by kernel_rfl)]
  have heq : ∀ (d : Nat) (a b : Int) (w : World), (Op.equalIn (d + 1) 3 (.int .i64 a) (.int .i64 b)).run Try.prog w = .ok (a == b) w := fun d a b w => run_equalIn_int w d _ _ _ a b Try.underlying3
  have hc : Try.prog.cellsOf 3 = 1 := by kernel_rfl
  have hcp : Try.prog.cellsOf 33 = 2 := by kernel_rfl
  have hcb : Try.prog.cellsOf 4 = 1 := by kernel_rfl
  have heqb : ∀ (d : Nat) (a b : Bool) (w : World), (Op.equalIn (d + 1) 4 (.bool a) (.bool b)).run Try.prog w = .ok (a == b) w := fun d a b w => by simp [Op.equalIn, run_underlying Try.underlying4]
  have hep : ∀ (x y : Int) (w : World), (Op.equalIn 9999 33 (.agg #[.int .i64 x, .int .i64 y]) (.agg #[.int .i64 x, .int .i64 y])).run Try.prog w = .ok true w := by
    intro x y w
    rw [run_equalIn_struct w 9998 33 _ _ (by kernel_rfl) (by kernel_rfl)]
    simp only [Program.fieldsOf, Try.underlying33]
    simp [go_sem]
  simp only [Program.fieldsOf, Try.underlying37]
  simp [go_sem]
attribute [go_sem] eq_seg
/-- A slice's pieces, in a block below B (nil and empty let in). -/
def RdS (w : World) (B : Nat) (A : Option Addr) (L : List Sg) : Prop :=
  0 < L.length → ∃ b o, A = some ⟨b, o, none⟩ ∧ b < B ∧ ∀ j s, L[j]? = some s → w.cell? ⟨b, o + j * 7, none⟩ = some (.int .i64 s.ax) ∧ w.cell? ⟨b, o + j * 7 + 1, none⟩ = some (.int .i64 s.ay) ∧ w.cell? ⟨b, o + j * 7 + 2, none⟩ = some (.int .i64 s.cx) ∧ w.cell? ⟨b, o + j * 7 + 3, none⟩ = some (.int .i64 s.cy) ∧ w.cell? ⟨b, o + j * 7 + 4, none⟩ = some (.int .i64 s.bx) ∧ w.cell? ⟨b, o + j * 7 + 5, none⟩ = some (.int .i64 s.bz) ∧ w.cell? ⟨b, o + j * 7 + 6, none⟩ = some (.bool s.k)
section
variable {w w' : World} {B B' n : Nat} {A : Option Addr} {L : List Sg}
theorem RdS.keep (h : RdS w B A L) (hk : ∀ b o, b < B → w'.cell? ⟨b, o, none⟩ = w.cell? ⟨b, o, none⟩) : RdS w' B A L := fun hn => by
  obtain ⟨b, o, rfl, hb, hc⟩ := h hn
  exact ⟨b, o, rfl, hb, fun j s hj => by
    obtain ⟨h1, h2, h3, h4, h5, h6, h7⟩ := hc j s hj
    exact ⟨(hk _ _ hb).trans h1, (hk _ _ hb).trans h2, (hk _ _ hb).trans h3, (hk _ _ hb).trans h4, (hk _ _ hb).trans h5, (hk _ _ hb).trans h6, (hk _ _ hb).trans h7⟩⟩
theorem RdS.more (h : RdS w B A L) (hB : B ≤ B') : RdS w B' A L := fun hn => by
  obtain ⟨b, o, rfl, hb, hc⟩ := h hn
  exact ⟨b, o, rfl, by omega, hc⟩
theorem RdS.on (h : RdS w w.heap.size A L) (k : Since w w') : RdS w' w'.heap.size A L := (h.keep fun b o hb => k.1 b o hb).more k.below.size
end
theorem cellsL_len : ∀ L : List Sg, (cellsL L).length = L.length * 7
  | [] => rfl
  | s :: L => by
    have ih := cellsL_len L
    unfold cellsL at ih ⊢
    rw [List.flatMap_cons, List.length_append, ih, List.length_cons]
    simp only [sgL, List.length_cons, List.length_nil]
    omega
theorem cellsL_get : ∀ (L : List Sg) (j : Nat) (s : Sg), L[j]? = some s → ∀ i, i < 7 → (cellsL L)[j * 7 + i]? = (sgL s)[i]?
  | [], j, s, h, i, hi => by simp at h
  | a :: L, 0, s, h, i, hi => by
    simp only [List.getElem?_cons_zero, Option.some.injEq] at h
    subst h
    unfold cellsL
    rw [List.flatMap_cons, List.getElem?_append_left (by simp only [sgL, List.length_cons, List.length_nil]; omega), Nat.zero_mul, Nat.zero_add]
  | a :: L, j + 1, s, h, i, hi => by
    rw [List.getElem?_cons_succ] at h
    have ih := cellsL_get L j s h i hi
    unfold cellsL at ih ⊢
    have hl : (sgL a).length = 7 := rfl
    rw [List.flatMap_cons, List.getElem?_append_right (by rw [hl]; omega), hl, show (j + 1) * 7 + i - 7 = j * 7 + i by omega]
    exact ih
theorem cellsL_tab (L : List Sg) : cellsL L = tab (L.length * 7) (fun j => (cellsL L).getD j undef) := by
  apply List.ext_getElem?
  intro j
  rw [tab_get]
  split
  · rename_i h
    rw [List.getD_eq_getElem?_getD, List.getElem?_eq_getElem (by rw [cellsL_len]; exact h)]
    rfl
  · rename_i h
    rw [List.getElem?_eq_none (by rw [cellsL_len]; omega)]
theorem OwnS.rd {w : World} {base : Nat} {v : Value} {L : List Sg} (h : OwnS w base v L) : ∃ A c, v = .slice A L.length c ∧ L.length ≤ c ∧ RdS w w.heap.size A L ∧ (∀ q, v.ownBlock = some q → base ≤ q) := by
  unfold OwnS at h
  rw [cellsL_tab] at h
  obtain ⟨A, c, rfl, hc, hr, hq⟩ := own_k (by omega) h
  refine ⟨A, c, rfl, hc, fun hn => ?_, hq⟩
  obtain ⟨b, o, rfl, hb, hcell⟩ := hr (by omega)
  refine ⟨b, o, rfl, hb, fun j s hj => ?_⟩
  have hjl : j < L.length := by
    rcases Nat.lt_or_ge j L.length with h | h
    · exact h
    · rw [List.getElem?_eq_none h] at hj; cases hj
  have hg := cellsL_get L j s hj
  have hv : ∀ i, i < 7 → w.cell? ⟨b, o + j * 7 + i, none⟩ = some ((sgL s).getD i undef) := fun i hi => by
    have h1 : w.cell? ⟨b, o + (j * 7 + i), none⟩ = some ((cellsL L).getD (j * 7 + i) undef) := hcell (j * 7 + i) (by omega)
    rw [List.getD_eq_getElem?_getD, hg i hi, ← List.getD_eq_getElem?_getD, ← Nat.add_assoc] at h1
    exact h1
  exact ⟨hv 0 (by omega), hv 1 (by omega), hv 2 (by omega), hv 3 (by omega), hv 4 (by omega), hv 5 (by omega), hv 6 (by omega)⟩
/-- What 'Segs' answers, as it reads. -/
theorem ou_segs_rd (A : Option Addr) (n c : Nat) (X Y : Nat → Int) (O : Nat → Bool) (w : World) (h : RdK w w.heap.size A n X Y O) (hX : ∀ j, j < n → InP (X j) (Y j)) (hn : n ≤ 1000000) :
    Calls Try.prog 15 #[.slice A n c] w fun e w' => ∃ A' c', e = .returned (.slice A' (segsL n X Y O).length c') ∧ RdS w' w'.heap.size A' (segsL n X Y O) ∧ Since w w' := by
  refine (ou_segs A n c X Y O w h hX hn).mono ?_
  rintro e w' ⟨v, base, rfl, hb, hO, hS⟩
  obtain ⟨A', c', rfl, hc, hr, _⟩ := hO.rd
  exact ⟨A', c', rfl, hr, hS⟩
theorem rdK_lit (w : World) (b : Nat) (hb : b = w.heap.size) (t : TypeId) (cs : Array Value) (n : Nat) (X Y : Nat → Int) (O : Nat → Bool)
    (h : ∀ j, j < n → cs[0 + j * 3]? = some (.int .i64 (X j)) ∧ cs[0 + j * 3 + 1]? = some (.int .i64 (Y j)) ∧ cs[0 + j * 3 + 2]? = some (.bool (O j))) :
    RdK (w.alloc (.cells cs t)) (w.alloc (.cells cs t)).heap.size (some ⟨b, 0, none⟩) n X Y O := fun _ => by
  subst hb
  refine ⟨w.heap.size, 0, rfl, by simp, fun j hj => ?_⟩
  rw [World.cell?_alloc_new, World.cell?_alloc_new, World.cell?_alloc_new]
  exact h j hj
def nthI (l : List Int) (j : Nat) : Int := l.getD j 0
def nthB (l : List Bool) (j : Nat) : Bool := l.getD j false
theorem inP_lit {l m : List Int} (h : l.all (fun x => decide (-1000 ≤ x ∧ x ≤ 1000)) = true) (h' : m.all (fun x => decide (-1000 ≤ x ∧ x ≤ 1000)) = true) (j : Nat) : InP (nthI l j) (nthI m j) := by
  have k : ∀ l : List Int, l.all (fun x => decide (-1000 ≤ x ∧ x ≤ 1000)) = true → -1000 ≤ nthI l j ∧ nthI l j ≤ 1000 := fun l h => by
    unfold nthI
    rw [List.getD_eq_getElem?_getD]
    cases hg : l[j]? with
    | none => simp
    | some x =>
      have := List.all_eq_true.1 h x (List.mem_of_getElem? hg)
      simpa using this
  have h1 := k l h
  have h2 := k m h'
  unfold InP In64
  omega
set_option maxRecDepth 100000 in
set_option maxHeartbeats 4000000 in
theorem rf_same11 (A A' : Option Addr) (c c' : Nat) (L : List Sg) (w : World) (h : RdS w w.heap.size A L) (h' : RdS w w.heap.size A' L) (hn : L.length ≤ maxLen) :
    Calls Try.prog 16 #[.slice A L.length c, .slice A' L.length c'] w fun e w' => e = .returned (.bool true) ∧ Since w w' := by
  generalize hnl : L.length = n at *
  have hn' : (n : Int) ≤ 9223372036854775807 := by simp only [maxLen] at hn; omega
  go_enter Try.func16, Try.ntmps16
  go_wp2
  go_loopw [13] (fun y wr => ∃ j : Nat, j ≤ n ∧ y = .int .i64 (j : Int) ∧ Since w wr) (fun y _ => n - (intOf y).toNat)
  case atStart => exact ⟨0, by omega, rfl, Since.refl _⟩
  case round =>
    obtain ⟨j, hj, rfl, hSr⟩ := hrel
    by_cases hjn : j < n
    · have hjn' : (j : Int) < n := by omega
      obtain ⟨b, o, rfl, hb, hc⟩ := h (by omega)
      obtain ⟨b', o', rfl, hb', hc'⟩ := h' (by omega)
      have hs : L[j]? = some L[j] := List.getElem?_eq_getElem (by omega)
      obtain ⟨c1, c2, c3, c4, c5, c6, c7⟩ := hc j _ hs
      obtain ⟨d1, d2, d3, d4, d5, d6, d7⟩ := hc' j _ hs
      generalize L[j] = s at *
      obtain ⟨ax, ay, cx, cy, bx, bz, k⟩ := s
      simp only at c1 c2 c3 c4 c5 c6 c7 d1 d2 d3 d4 d5 d6 d7
      have c1 := (hSr.1 _ _ hb).trans c1
      have c2 := (hSr.1 _ _ hb).trans c2
      have c3 := (hSr.1 _ _ hb).trans c3
      have c4 := (hSr.1 _ _ hb).trans c4
      have c5 := (hSr.1 _ _ hb).trans c5
      have c6 := (hSr.1 _ _ hb).trans c6
      have c7 := (hSr.1 _ _ hb).trans c7
      have d1 := (hSr.1 _ _ hb').trans d1
      have d2 := (hSr.1 _ _ hb').trans d2
      have d3 := (hSr.1 _ _ hb').trans d3
      have d4 := (hSr.1 _ _ hb').trans d4
      have d5 := (hSr.1 _ _ hb').trans d5
      have d6 := (hSr.1 _ _ hb').trans d6
      have d7 := (hSr.1 _ _ hb').trans d7
      have hbw := hSr.2.2.1 _ hb
      have hbw' := hSr.2.2.1 _ hb'
      clear hc hc' h h' hs
      go_wp2
      go_region
      all_goals go_wp2
      all_goals go_roundw
      case rel => exact ⟨j + 1, by omega, by go_num, hSr.drew⟩
      case measure => simp [intOf]; omega
    · obtain rfl : j = n := by omega
      clear h h'
      go_wp2
      go_ret
      exact ⟨rfl, hSr⟩
end Go.Proofs.Ytdbenpncnkfliaa

/-
  Layer 14: a piece's lines, and 'walk' with way's function.
-/
namespace Go.Proofs.Ytdbenpncnkfliaa
open Go.RowKit Go.ChangeShapes Go.WideShapes Go.Deep
set_option linter.unusedVariables false

/-- The lines after k points of a piece, and where the way stands. -/
def wayPN (s : Sg) (L : List Lq) : Nat → List Lq × Pq
  | 0 => (L, ⟨s.ax, s.ay⟩)
  | k + 1 => (addL (wayPN s L k).1 (wayPN s L k).2 (rndP s (stN s) k), rndP s (stN s) k)
def segW (s : Sg) (L : List Lq) : List Lq := (wayPN s L (2 ^ stN s + 1)).1
/-- .. of pieces, up to where there are enough. -/
def wayL (m : Int) : List Sg → List Lq → List Lq
  | [], L => L
  | s :: r, L => if m ≤ (L.length : Int) then L else wayL m r (segW s L)
theorem addL_len (L : List Lq) (h p : Pq) : (addL L h p).length ≤ L.length + 1 := by
  unfold addL
  split <;> simp
theorem wayPN_len (s : Sg) (L : List Lq) : ∀ k, (wayPN s L k).1.length ≤ L.length + k
  | 0 => by simp [wayPN]
  | k + 1 => by have := addL_len (wayPN s L k).1 (wayPN s L k).2 (rndP s (stN s) k); have := wayPN_len s L k; simp only [wayPN]; omega
theorem segW_len (s : Sg) (L : List Lq) : (segW s L).length ≤ L.length + 513 := by
  have := wayPN_len s L (2 ^ stN s + 1)
  have := (pow_le9 (stN_le s)).2
  unfold segW
  omega
theorem way1_enter (args : Array Value) (w : World) : (callFunc 64 args).run Try.prog w = .ok (.enter 64 args) w := rfl
theorem CapL.self {w0 ws w : World} {bl bh : Nat} {L : List Lq} {h : Pq} (hc : CapL w0 ws w bl bh L h) : CapL w0 w w bl bh L h := by
  obtain ⟨v, h1, h2, h3, h4, h5, h6, h7⟩ := hc
  exact ⟨v, h1, h2, h3, h4, h5, h6, fun b cs h => h⟩
theorem CapL.seg {w0 ws w w2 : World} {bl bh : Nat} {L L' : List Lq} {h h' : Pq} (hc : CapL w0 ws w bl bh L h) (k : CapL w0 w w2 bl bh L' h') : CapL w0 ws w2 bl bh L' h' := by
  obtain ⟨v, h1, h2, h3, h4, h5, h6, h7⟩ := k
  exact ⟨v, h1, h2, h3, h4, h5, h6, fun b cs hb => h7 b cs (hc.choose_spec.2.2.2.2.2.2 b cs hb)⟩
theorem way1_step (s : Sg) (w0 ws : World) (bl bh : Nat) (L : List Lq) (hL : L.length ≤ 10000) (k : Nat) (hk : k ≤ 2 ^ stN s) : Step 64 #[.pointer (some ⟨bh, 0, none⟩), .pointer (some ⟨bl, 0, none⟩)] s (fun k w => CapL w0 ws w bl bh (wayPN s L k).1 (wayPN s L k).2) k := fun w1 h => by
  have hp := pow_le9 (stN_le s)
  have hl := wayPN_len s L k
  refine (fa_way1 w0 w1 bl bh _ _ (rndP s (stN s) k) w1 h.self (by omega)).mono ?_
  rintro e w2 ⟨hv, hC⟩
  exact ⟨hv, h.seg hC, hC.choose_spec.2.2.2.2.2.2⟩
/-- 'walk' of a piece in range, in 'way'. -/
theorem fa_walkL (s : Sg) (hs : s.wf) (hok : inR s = true) (w0 ws : World) (bl bh : Nat) (L : List Lq) (hL : L.length ≤ 10000) (w : World) (h0 : CapL w0 ws w bl bh L ⟨s.ax, s.ay⟩) :
    Calls Try.prog 53 #[s.v, .func (.func 64) #[] #[.pointer (some ⟨bh, 0, none⟩), .pointer (some ⟨bl, 0, none⟩)]] w fun e w' => e = .returned (.int .i64 0) ∧ ∃ h, CapL w0 ws w' bl bh (segW s L) h := by
  refine (fa_walk s hs 64 _ (fun k w => CapL w0 ws w bl bh (wayPN s L k).1 (wayPN s L k).2) w way1_enter h0 (fun k w1 w2 h k2 => h.since k2) hok (fun k hk => way1_step s w0 ws bl bh L hL k hk)).mono ?_
  rintro e w' ⟨rfl, h⟩
  exact ⟨rfl, _, h⟩
end Go.Proofs.Ytdbenpncnkfliaa
