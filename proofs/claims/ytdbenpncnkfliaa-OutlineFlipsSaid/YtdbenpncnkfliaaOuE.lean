/-
  Layer 11: 'Segs', walked.
-/
import Derived.Test.YtdbenpncnkfliaaOuD
import Derived.Deep.CutBlock
import Derived.Deep.DeepCutAuto
import Derived.Deep.RegionWith
namespace Go.Proofs.Ytdbenpncnkfliaa
open Go.RowKit Go.ChangeShapes Go.WideShapes Go.Deep
set_option linter.unusedVariables false

/-- The cells of a knot. -/
def Kf (x y : Int) (o : Bool) (j : Nat) : Value := if j = 0 then .int .i64 x else if j = 1 then .int .i64 y else .bool o
theorem krow (w : World) (b : Nat) (hb : b = w.heap.size) (t : TypeId) (x y : Int) (o : Bool) : Row (w.alloc (.cells #[.int .i64 x, .int .i64 y, .bool o] t)) b 3 (Kf x y o) := by
  subst hb
  refine Row.of_cells fun j hj => ?_
  have h : j = 0 ∨ j = 1 ∨ j = 2 := by omega
  rcases h with rfl | rfl | rfl <;> rfl
theorem kcells {w : World} {b : Nat} {x y : Int} {o : Bool} (h : Row w b 3 (Kf x y o)) : w.cell? ⟨b, 0, none⟩ = some (.int .i64 x) ∧ w.cell? ⟨b, 1, none⟩ = some (.int .i64 y) ∧ w.cell? ⟨b, 2, none⟩ = some (.bool o) ∧ b < w.heap.size := ⟨h.1 0 (by omega), h.1 1 (by omega), h.1 2 (by omega), h.2.2⟩
/-- The cells of a piece. -/
def Sf (s : Sg) (j : Nat) : Value := (sgL s).getD j undef
theorem srow (w : World) (b : Nat) (hb : b = w.heap.size) (t : TypeId) (s : Sg) : Row (w.alloc (.cells #[.int .i64 s.ax, .int .i64 s.ay, .int .i64 s.cx, .int .i64 s.cy, .int .i64 s.bx, .int .i64 s.bz, .bool s.k] t)) b 7 (Sf s) := by
  subst hb
  refine Row.of_cells fun j hj => ?_
  have h : j = 0 ∨ j = 1 ∨ j = 2 ∨ j = 3 ∨ j = 4 ∨ j = 5 ∨ j = 6 := by omega
  rcases h with rfl | rfl | rfl | rfl | rfl | rfl | rfl <;> rfl
theorem sput {w : World} {b : Nat} {s0 : Sg} (h : Row w b 7 (Sf s0)) (s : Sg) : Row (((((((w.setCell ⟨b, 0, none⟩ (.int .i64 s.ax)).setCell ⟨b, 1, none⟩ (.int .i64 s.ay)).setCell ⟨b, 2, none⟩ (.int .i64 s.cx)).setCell ⟨b, 3, none⟩ (.int .i64 s.cy)).setCell ⟨b, 4, none⟩ (.int .i64 s.bx)).setCell ⟨b, 5, none⟩ (.int .i64 s.bz)).setCell ⟨b, 6, none⟩ (.bool s.k)) b 7 (Sf s) := by
  refine (((((((h.set 0 _).set 1 _).set 2 _).set 3 _).set 4 _).set 5 _).set 6 _).congr fun j hj => ?_
  have hh : j = 0 ∨ j = 1 ∨ j = 2 ∨ j = 3 ∨ j = 4 ∨ j = 5 ∨ j = 6 := by omega
  rcases hh with rfl | rfl | rfl | rfl | rfl | rfl | rfl <;> rfl
theorem sput2 {w : World} {b : Nat} {ax ay cx cy bx bz : Int} {k : Bool} (h : Row w b 7 (Sf ⟨ax, ay, cx, cy, bx, bz, k⟩)) (x y : Int) : Row ((w.setCell ⟨b, 2, none⟩ (.int .i64 x)).setCell ⟨b, 3, none⟩ (.int .i64 y)) b 7 (Sf ⟨ax, ay, x, y, bx, bz, k⟩) := by
  refine ((h.set 2 _).set 3 _).congr fun j hj => ?_
  have hh : j = 0 ∨ j = 1 ∨ j = 2 ∨ j = 3 ∨ j = 4 ∨ j = 5 ∨ j = 6 := by omega
  rcases hh with rfl | rfl | rfl | rfl | rfl | rfl | rfl <;> rfl
theorem sput4 {w : World} {b : Nat} {ax ay cx cy bx bz : Int} {k : Bool} (h : Row w b 7 (Sf ⟨ax, ay, cx, cy, bx, bz, k⟩)) (x y : Int) : Row ((w.setCell ⟨b, 4, none⟩ (.int .i64 x)).setCell ⟨b, 5, none⟩ (.int .i64 y)) b 7 (Sf ⟨ax, ay, cx, cy, x, y, k⟩) := by
  refine ((h.set 4 _).set 5 _).congr fun j hj => ?_
  have hh : j = 0 ∨ j = 1 ∨ j = 2 ∨ j = 3 ∨ j = 4 ∨ j = 5 ∨ j = 6 := by omega
  rcases hh with rfl | rfl | rfl | rfl | rfl | rfl | rfl <;> rfl
theorem scells {w : World} {b : Nat} {s : Sg} (h : Row w b 7 (Sf s)) : w.cell? ⟨b, 0, none⟩ = some (.int .i64 s.ax) ∧ w.cell? ⟨b, 1, none⟩ = some (.int .i64 s.ay) ∧ w.cell? ⟨b, 2, none⟩ = some (.int .i64 s.cx) ∧ w.cell? ⟨b, 3, none⟩ = some (.int .i64 s.cy) ∧ w.cell? ⟨b, 4, none⟩ = some (.int .i64 s.bx) ∧ w.cell? ⟨b, 5, none⟩ = some (.int .i64 s.bz) ∧ w.cell? ⟨b, 6, none⟩ = some (.bool s.k) ∧ b < w.heap.size := ⟨h.1 0 (by omega), h.1 1 (by omega), h.1 2 (by omega), h.1 3 (by omega), h.1 4 (by omega), h.1 5 (by omega), h.1 6 (by omega), h.2.2⟩
theorem OwnS.alloc {w : World} {base : Nat} {v : Value} {L : List Sg} (h : OwnS w base v L) (o : Obj) : OwnS (w.alloc o) base v L := h.since ((Since.refl w).alloc o)
theorem OwnS.keep {w w' : World} {base : Nat} {v : Value} {L : List Sg} (h : OwnS w base v L) (hk : ∀ b, base ≤ b → b < w.heap.size → w'.heap[b]? = w.heap[b]?) : OwnS w' base v L := by
  refine ⟨h.1, ?_⟩
  rcases h.2 with h0 | ⟨g, cap, cur, e1, hb, hh, r⟩
  · exact .inl h0
  · refine .inr ⟨g, cap, cur, e1, hb, ?_, r⟩
    have hlt : g < w.heap.size := by
      rcases Nat.lt_or_ge g w.heap.size with hlt | hge
      · exact hlt
      · rw [Array.getElem?_eq_none hge] at hh; cases hh
    rw [hk g hb hlt]; exact hh
theorem OwnS.far {w : World} {base b : Nat} {v : Value} {L : List Sg} (h : OwnS w base v L) (hb : b < base) (o o' : Nat) (x y : Value) : OwnS ((w.setCell ⟨b, o, none⟩ x).setCell ⟨b, o', none⟩ y) base v L :=
  h.keep fun c hc hlt => by simp [World.setCell, Array.getElem?_modify, show ¬ b = c by omega]
theorem Row.grownO {w w' : World} {b n : Nat} {row : Option Nat} {f : Nat → Value} (h : Row w b n f) (hg : w.grownBy w' row) (hb : row ≠ some b) : Row w' b n f := by
  have e := hg.block b h.2.2 (fun x => hb x.symm)
  refine ⟨fun j hj => ?_, fun j => ?_, Nat.lt_of_lt_of_le h.2.2 hg.size⟩
  · rw [← h.1 j hj]; simp only [World.cell?, e]
  · rw [← h.2.1 j]; simp only [World.frozen?, e]
/-- What 'Segs' answers: an own row of the pieces. -/
def SegsOut (w : World) (L : List Sg) (e : Ending) (w' : World) : Prop := ∃ v base, e = .returned v ∧ w.heap.size ≤ base ∧ OwnS w' base v L ∧ Since w w'
theorem max0 (O : Nat → Bool) (n : Nat) : ∀ w : World, (Builtin.max_ #[3, 3] 3 #[.int .i64 (idxI O n), .int .i64 0]).run Try.prog w = .ok (.int .i64 (frs n O : Int)) w := fun w => by
  have h : (Builtin.max_ #[3, 3] 3 #[.int .i64 (idxI O n), .int .i64 0]).run Try.prog w = .ok (.int .i64 (if idxI O n < 0 then 0 else idxI O n)) w := rfl
  rw [h]
  unfold idxI frs
  split
  · rw [if_neg (by omega)]
  · rfl
theorem frs_lt {n : Nat} {O : Nat → Bool} (hn : 0 < n) : frs n O < n := by unfold frs; split <;> omega
set_option maxRecDepth 100000 in
theorem ou_segs_nil (A : Option Addr) (c : Nat) (X Y : Nat → Int) (O : Nat → Bool) (w : World) : Calls Try.prog 15 #[.slice A 0 c] w (SegsOut w (segsL 0 X Y O)) := by
  go_enter Try.func15, Try.ntmps15
  go_wp2
  go_ret
  exact ⟨_, _, rfl, Nat.le_refl _, OwnS.nil _ _, by (repeat (first | with_reducible (exact Since.refl _) | with_reducible assumption | with_reducible (refine Since.drew ?_) | with_reducible (refine Since.drewN ?_ _) | with_reducible (refine Since.alloc ?_ _) | (with_reducible (refine Since.setCell ?_ ?_ _); rotate_left; focus (first | (simp; done) | (simp; omega) | omega)) | (with_reducible (refine Since.trans ?_ (by with_reducible assumption)))))⟩
set_option maxRecDepth 100000 in
set_option maxHeartbeats 32000000 in
theorem ou_segs_pos (A : Option Addr) (n c : Nat) (X Y : Nat → Int) (O : Nat → Bool) (w : World) (h : RdK w w.heap.size A n X Y O) (hX : ∀ j, j < n → InP (X j) (Y j)) (hn0 : 0 < n) (hn : n ≤ 1000000) :
    Calls Try.prog 15 #[.slice A n c] w (SegsOut w (segsL n X Y O)) := by
  have hmax := max0 O n
  have hidx := fun (w' : World) (hS : Since w w') => ou_index A n c X Y O w' (h.on hS) (by simp only [maxLen]; omega)
  have hf := frs_lt (O := O) hn0
  have hfi : ((frs n O : Nat) : Int) < (n : Int) := by omega
  have hn1 : (0 : Int) < n := by omega
  obtain ⟨b, o, rfl, hb, hc⟩ := h hn0
  obtain ⟨g1, g2, g3⟩ := hc (frs n O) hf
  have hlen : decide ((n : Int) = 0) = false := by simp; omega
  have hlen2 : ((n : Int) == 0) = false := by simp; omega
  have hpt := fun x y k w => ou_point x y k w
  unfold Kn Pt at hpt
  have HI := Lib.hid hidx
  have HC := Lib.hid hc
  have HX := Lib.hid hX
  have HP := Lib.hid hpt
  clear hidx hc hX hpt h
  generalize hfr : frs n O = f at *
  have HF := Lib.hid hfr
  clear hfr
  go_enter Try.func15, Try.ntmps15
  go_upto_region 5 with (first | (go_at_call 46; (with_reducible refine (HI.out _ (Since.refl _)).mono ?_); rintro e w1 ⟨rfl, hS1⟩; have g1 := (hS1.1 _ _ hb).trans g1; have g2 := (hS1.1 _ _ hb).trans g2; have g3 := (hS1.1 _ _ hb).trans g3; have hb1 := hS1.2.2.1 _ hb) | (go_at_call 48; (with_reducible refine (HP.out _ _ _ _).mono ?_); rintro e w2 ⟨rfl, hS2⟩))
  refine wp_named fun w3 hw3 => ?_
  have rH : Row w3 w2.heap.size 2 (Pf (X f) (Y f)) := by subst hw3; exact prow w2 _ rfl _ _ _
  have hS12 : Since w w2 := hS1.trans hS2
  have hbh := hS12.below.size
  have hS : Since w w3 := by subst hw3; exact hS12.alloc _
  clear hw3 hS1 hS2 hS12 g1 g2 g3 hb1
  generalize w2.heap.size = bh at *
  have hcf := HC.out f hf
  have g3 : w3.cell? ⟨b, o + f * 3 + 2, none⟩ = some (.bool (O f)) := (hS.1 _ _ hb).trans hcf.2.2
  have hb3 := hS.2.2.1 _ hb
  generalize hst0 : startS n X Y O = st at *
  have HST := Lib.hid hst0
  clear hst0
  go_upto_if 26 with fail
  go_cut [] (fun wx => Since w wx ∧ Row wx bh 2 (Pf st.1 st.2))
  case first =>
    have hfo := firstOn_is O n
    cases hof : O f
    · have hnone : ¬ firstOn O n < n := fun hlt => by
        have e : f = firstOn O n := by rw [← HF.out]; unfold frs; rw [if_pos hlt]
        rw [e, hfo.2.2 hlt] at hof
        cases hof
      have e0 : f = 0 := by rw [← HF.out]; unfold frs; rw [if_neg hnone]
      have hst : st = (mid (X (n - 1)) (X 0), mid (Y (n - 1)) (Y 0)) := by rw [← HST.out]; unfold startS; rw [if_neg hnone]
      have HST2 := Lib.hid hst
      obtain ⟨x1, x2, x3⟩ := HC.out (n - 1) (by omega)
      have p1 : w3.cell? ⟨b, o + (n - 1) * 3, none⟩ = some (.int .i64 (X (n - 1))) := (hS.1 _ _ hb).trans x1
      have p2 : w3.cell? ⟨b, o + (n - 1) * 3 + 1, none⟩ = some (.int .i64 (Y (n - 1))) := (hS.1 _ _ hb).trans x2
      have p3 : w3.cell? ⟨b, o + (n - 1) * 3 + 2, none⟩ = some (.bool (O (n - 1))) := (hS.1 _ _ hb).trans x3
      obtain ⟨q1, q2, q3⟩ := pcells rH
      have hm := fun w => ou_mid (X (n - 1)) (Y (n - 1)) (X f) (Y f) (HX.out _ (by omega)) (HX.out _ hf) w
      rw [e0] at hm q1 q2 rH g3 hof
      have HE0 := Lib.hid e0
      have hm : ∀ w, Calls Try.prog 19 #[Pt (X (n - 1)) (Y (n - 1)), Pt (X 0) (Y 0)] w fun e w' => e = .returned (Pt st.1 st.2) ∧ Since w w' := by rw [hst]; exact hm
      obtain ⟨sx, sy⟩ := st
      simp only at hm
      generalize X (n - 1) = xl at *
      generalize Y (n - 1) = yl at *
      generalize O (n - 1) = ol at *
      unfold Pt at hm
      have HM := Lib.hid hm
      have k1 : IntKind.i64.wrap ((n : Int) - 1) = (n : Int) - 1 := IntWalk.i64_in _ (by omega)
      have k2 : (0 : Int) ≤ (n : Int) - 1 := by omega
      have k3 : ((n : Int) - 1).toNat = n - 1 := by omega
      have k4 : (n : Int) - 1 < (n : Int) := by omega
      have k5 : (1 : Int) ≤ (n : Int) := by omega
      have q3d : bh < w3.drew.heap.size := q3
      have hb3d : b < w3.drew.heap.size := hb3
      have tok8 : True := trivial
      have tok9 : True := trivial
      have hne : b ≠ bh := by omega
      have hfz := rH.2.1
      have z0 := hfz 0; have z1 := hfz 1
      clear hm x1 x2 x3 hcf hfo hnone hst hfz HC HX HI HF HST HST2 hmax e0
      rw [hof] at g3
      go_wp2_with fail
      go_region_with (first | (go_at_call 48; (with_reducible refine (HP.out _ _ _ _).mono ?_); rintro e w8 ⟨rfl, hS8⟩; have u1 := (hS8.1 _ _ q3d).trans q1; have u2 := (hS8.1 _ _ q3d).trans q2; have u3 := hS8.2.2.1 _ q3d; have zz0 := (hS8.2.1 bh 0 q3d).trans z0; have zz1 := (hS8.2.1 bh 1 q3d).trans z1) | (go_at_call 19; (with_reducible refine (HM.out _).mono ?_); rintro e w9 ⟨rfl, hS9⟩; have t1 := (hS9.1 _ _ u3).trans u1; have t2 := (hS9.1 _ _ u3).trans u2; have t3 := hS9.2.2.1 _ u3; have zy0 := (hS9.2.1 bh 0 u3).trans zz0; have zy1 := (hS9.2.1 bh 1 u3).trans zz1))
      all_goals (go_wp2_with fail)
      all_goals go_meet
      all_goals exact ⟨(((hS.drew.trans hS8).trans hS9).setCell hbh _).setCell hbh _, pput ((rH.drew.since hS8).since hS9) sx sy⟩
    · have hlt : firstOn O n < n := by
        rcases Nat.lt_or_ge (firstOn O n) n with h | h
        · exact h
        · have e : f = 0 := by rw [← HF.out]; unfold frs; rw [if_neg (by omega)]
          have := hfo.2.1 f (by omega)
          rw [this] at hof
          cases hof
      have hst : st = (X f, Y f) := by
        rw [← HST.out]; unfold startS
        rw [if_pos hlt]
        have e : f = firstOn O n := by rw [← HF.out]; unfold frs; rw [if_pos hlt]
        rw [e]
      have HST2 := Lib.hid hst
      clear hst hlt hfo
      rw [hof] at g3
      go_wp2_with fail
      go_meet
      case rel => exact ⟨hS, by rw [HST2.out]; exact rH⟩
  obtain ⟨hS, rH⟩ := hcut
  clear g3 hb3 hcf
  go_wp2_with fail
  go_loopg [5, 38] n (fun g v y wr => ∃ i : Nat, i + g = n ∧ y = .int .i64 (i : Int) ∧ OwnS wr (bh + 1) v (runS f n X Y O st i).2 ∧ Row wr bh 2 (Pf (runS f n X Y O st i).1.1 (runS f n X Y O st i).1.2) ∧ Since w wr)
  case atStart => exact ⟨0, by omega, rfl, OwnS.nil _ _, rH, hS⟩
  case round =>
    obtain ⟨i, hig, rfl, hO, rH, hS⟩ := hrel
    by_cases hi : i < n
    · have hi' : (i : Int) < n := by omega
      have hk : (f + i) % n < n := Nat.mod_lt _ hn0
      have hk2 : (f + i + 1) % n < n := Nat.mod_lt _ hn0
      have u1 : IntKind.i64.wrap ((f : Int) + (i : Int)) = (f : Int) + (i : Int) := IntWalk.i64_in _ (by omega)
      have u2 : IntKind.i64.wrap ((f : Int) + (i : Int) + 1) = (f : Int) + (i : Int) + 1 := IntWalk.i64_in _ (by omega)
      have u3 : ((f : Int) + (i : Int)).tmod (n : Int) = (((f + i) % n : Nat) : Int) := by rw [Int.tmod_eq_emod_of_nonneg (by omega), Int.natCast_emod, Int.natCast_add]
      have u4 : ((f : Int) + (i : Int) + 1).tmod (n : Int) = (((f + i + 1) % n : Nat) : Int) := by rw [Int.tmod_eq_emod_of_nonneg (by omega), Int.natCast_emod, Int.natCast_add, Int.natCast_add]; rfl
      obtain ⟨x1, x2, x3⟩ := HC.out _ hk
      obtain ⟨y1, y2, y3⟩ := HC.out _ hk2
      have hik := HX.out _ hk
      have hin := HX.out _ hk2
      have hstep : runS f n X Y O st (i + 1) = stepS f n X Y O (runS f n X Y O st i).1 (runS f n X Y O st i).2 i := rfl
      have hlenL := runS_len f n X Y O st i
      unfold stepS at hstep
      have HS := Lib.hid hstep
      clear hstep
      generalize (f + i) % n = k at *
      generalize (f + i + 1) % n = m at *
      generalize X k = xk at *
      generalize Y k = yk at *
      generalize X m = xm at *
      generalize Y m = ym at *
      have k1 : wr.cell? ⟨b, o + k * 3, none⟩ = some (.int .i64 xk) := (hS.1 _ _ hb).trans x1
      have k2 : wr.cell? ⟨b, o + k * 3 + 1, none⟩ = some (.int .i64 yk) := (hS.1 _ _ hb).trans x2
      have k3 : wr.cell? ⟨b, o + k * 3 + 2, none⟩ = some (.bool (O k)) := (hS.1 _ _ hb).trans x3
      have m1 : wr.cell? ⟨b, o + m * 3, none⟩ = some (.int .i64 xm) := (hS.1 _ _ hb).trans y1
      have m2 : wr.cell? ⟨b, o + m * 3 + 1, none⟩ = some (.int .i64 ym) := (hS.1 _ _ hb).trans y2
      have m3 : wr.cell? ⟨b, o + m * 3 + 2, none⟩ = some (.bool (O m)) := (hS.1 _ _ hb).trans y3
      have hbw := hS.2.2.1 _ hb
      have hkI : (k : Int) < n := by omega
      have hmI : (m : Int) < n := by omega
      have hnz : (n : Int) ≠ 0 := by omega
      clear x1 x2 x3 y1 y2 y3
      generalize runS f n X Y O st i = R at *
      obtain ⟨⟨hx, hy⟩, L⟩ := R
      simp only at rH hO hlenL
      go_wp2_with fail
      refine wp_named fun wr0 hwr0 => ?_
      obtain rfl := hwr0
      go_cut [7, 8] (fun x y wx => ∃ p q : Nat, x = .pointer (some ⟨p, 0, none⟩) ∧ y = .pointer (some ⟨q, 0, none⟩) ∧ wr0.heap.size ≤ p ∧ wr0.heap.size ≤ q ∧ Since wr0 wx ∧ Row wx p 3 (Kf xk yk (O k)) ∧ Row wx q 3 (Kf xm ym (O m)))
      case first =>
        go_region
        all_goals (go_wp2_with fail)
        all_goals go_meet
        all_goals first
          | exact ⟨_, _, rfl, rfl, Nat.le_refl _, by simp, by (repeat (first | with_reducible (exact Since.refl _) | with_reducible assumption | with_reducible (refine Since.drew ?_) | with_reducible (refine Since.drewN ?_ _) | with_reducible (refine Since.alloc ?_ _) | (with_reducible (refine Since.setCell ?_ ?_ _); rotate_left; focus (first | (simp; done) | (simp; omega) | omega)) | (with_reducible (refine Since.trans ?_ (by with_reducible assumption))))), ((krow wr0 _ rfl _ _ _ _).alloc _).drew, (krow _ _ (by simp) _ _ _ _).drew⟩
          | exact ⟨_, _, rfl, rfl, by simp, Nat.le_refl _, by (repeat (first | with_reducible (exact Since.refl _) | with_reducible assumption | with_reducible (refine Since.drew ?_) | with_reducible (refine Since.drewN ?_ _) | with_reducible (refine Since.alloc ?_ _) | (with_reducible (refine Since.setCell ?_ ?_ _); rotate_left; focus (first | (simp; done) | (simp; omega) | omega)) | (with_reducible (refine Since.trans ?_ (by with_reducible assumption))))), (krow _ _ (by simp) _ _ _ _).drew, ((krow wr0 _ rfl _ _ _ _).alloc _).drew⟩
      obtain ⟨p, q, rfl, rfl, hp, hq, hS1, rK, rN⟩ := hcut
      have hS := hS.trans hS1
      have rH := rH.since hS1
      have hO := hO.since hS1
      have hz1 := hS1.below.size
      have hbh1 : bh < wc.heap.size := rH.2.2
      clear hS1 k1 k2 k3 m1 m2 m3 hbw u1 u2 u3 u4
      obtain ⟨k1, k2, k3, k4⟩ := kcells rK
      obtain ⟨m1, m2, m3, m4⟩ := kcells rN
      obtain ⟨h1, h2, h3⟩ := pcells rH
      cases hok : O k
      · rw [hok] at k3
        cases hom : O m
        · rw [hom] at m3
          rw [hok, hom] at HS
          simp only [if_false, Bool.false_eq_true] at HS
          have hM := fun w => ou_mid xk yk xm ym hik hin w
          unfold Pt at hM
          generalize mid xk xm = mx at *
          generalize mid yk ym = my at *
          have HM := Lib.hid hM
          clear hM
          go_wp2_with fail
          refine wp_named fun wa hwa => ?_
          obtain rfl := hwa
          go_cut [9] (fun z wx => ∃ r : Nat, z = .pointer (some ⟨r, 0, none⟩) ∧ wa.heap.size ≤ r ∧ Since wa wx ∧ Row wx r 7 (Sf ⟨hx, hy, 0, 0, xm, ym, true⟩))
          case first =>
            clear rH rK rN hO hS HS HX HC HI HF HST hmax
            (refine wp_named fun wr7 hwr7 => ?_; go_region_held3 (fun w' => (∀ b o, b < wr7.heap.size → w'.cell? ⟨b, o, none⟩ = wr7.cell? ⟨b, o, none⟩) ∧ (∀ b o, b < wr7.heap.size → w'.frozen? ⟨b, o, none⟩ = wr7.frozen? ⟨b, o, none⟩) ∧ (∀ k, k < wr7.heap.size → k < w'.heap.size) ∧ Below wr7.heap.size wr7 w') ((subst hwr7; (repeat (with_reducible (refine since_put ?_ ?_ _); rotate_left; focus (first | (simp; done) | (simp; omega) | omega))); first | with_reducible assumption | (refine since_step (by with_reducible assumption) ?_; first | with_reducible assumption | ((repeat (first | with_reducible (exact Since.refl _) | with_reducible assumption | with_reducible (refine Since.drew ?_) | with_reducible (refine Since.drewN ?_ _) | with_reducible (refine Since.alloc ?_ _) | (with_reducible (refine Since.setCell ?_ ?_ _); rotate_left; focus (first | (simp; done) | (simp; omega) | omega)))); done)) | (refine since_step (Since.refl _) ?_; first | with_reducible assumption | ((repeat (first | with_reducible (exact Since.refl _) | with_reducible assumption | with_reducible (refine Since.drew ?_) | with_reducible (refine Since.drewN ?_ _) | with_reducible (refine Since.alloc ?_ _) | (with_reducible (refine Since.setCell ?_ ?_ _); rotate_left; focus (first | (simp; done) | (simp; omega) | omega)) | (with_reducible (refine Since.trans ?_ (by with_reducible assumption))))); done)))) (first | (go_at_call 48; (with_reducible refine (HP.out _ _ _ _).mono ?_); rintro e w8 ⟨rfl, hS8⟩; have hT8 := hS8; obtain ⟨hc8, hf8, hz8, hb8⟩ := hT8; have hZ8 := hS8.below.size; (try simp at hZ8); (try have hq8 := hz8 wa.heap.size (by first | with_reducible assumption | (simp; done) | (simp; omega))))); all_goals (rename_i hHeld; have hR7 : Since wr7 _ := hHeld; obtain ⟨hcR7, hfR7, hzR7, hbR7⟩ := hHeld; subst hwr7))
            all_goals (go_wp2_with fail)
            all_goals go_meet
            all_goals refine ⟨_, rfl, ?_, ?_, ?_⟩
            any_goals ((show _ ≤ _); first | omega | (simp; omega))
            any_goals ((show Since _ _); (repeat (first | with_reducible (exact Since.refl _) | with_reducible assumption | with_reducible (refine Since.drew ?_) | with_reducible (refine Since.drewN ?_ _) | with_reducible (refine Since.alloc ?_ _) | (with_reducible (refine Since.setCell ?_ ?_ _); rotate_left; focus (first | (simp; done) | (simp; omega) | omega)) | (with_reducible (refine Since.trans ?_ (by with_reducible assumption))))); done)
            all_goals (repeat (first | with_reducible assumption | (with_reducible (refine srow _ _ ?_ _ ⟨hx, hy, 0, 0, xm, ym, true⟩); focus (first | with_reducible rfl | (simp; done))) | (with_reducible (refine srow _ _ ?_ _ ⟨0, 0, 0, 0, 0, 0, false⟩); focus (first | with_reducible rfl | (simp; done))) | with_reducible (refine sput (s0 := ⟨0, 0, 0, 0, 0, 0, false⟩) ?_ ⟨hx, hy, 0, 0, xm, ym, true⟩) | with_reducible (refine Row.drew ?_) | with_reducible (refine Row.alloc ?_ _) | with_reducible (refine Row.since ?_ hS8)))
          obtain ⟨r, rfl, hr, hS1, rS⟩ := hcut
          have hq1 : q ≠ r := by have := rN.2.2; omega
          have hq2 : r ≠ q := fun e => hq1 e.symm
          have hp1 : p ≠ r := by have := rK.2.2; omega
          have hp2 : r ≠ p := fun e => hp1 e.symm
          have hS0 := hS
          have rH0 := rH
          have hO0 := hO
          have rS0 := True.intro
          have HSA := Lib.hid hS1
          have hS := hS.trans hS1
          have rH := rH.since hS1
          have hO := hO.since hS1
          have rK := rK.since hS1
          have rN := rN.since hS1
          have hne : bh ≠ r := by omega
          have hz2 := hS1.below.size
          clear hS1 k1 k2 k3 k4 m1 m2 m3 m4 h1 h2 h3
          obtain ⟨k1, k2, k3, k4⟩ := kcells rK
          obtain ⟨m1, m2, m3, m4⟩ := kcells rN
          obtain ⟨h1, h2, h3⟩ := pcells rH
          obtain ⟨s1, s2, s3, s4, s5, s6, s7, s8⟩ := scells rS
          simp only at s1 s2 s3 s4 s5 s6 s7
          have z0 := rH.2.1 0
          have z1 := rH.2.1 1
          have hSa := HSA.out
          go_upto_if 75 with fail
          go_cut [] (fun wy => Since wa wy ∧ Row wy r 7 (Sf ⟨hx, hy, xk, yk, mx, my, true⟩))
          case first =>
            go_wp2_with (first | (go_at_call 48; (with_reducible refine (HP.out _ _ _ _).mono ?_); rintro e w8 ⟨rfl, hS8⟩; have hK8 := hSa.trans hS8; have rS8 := rS.since hS8; have rN8 := rN.since hS8; clear s1 s2 s3 s4 s5 s6 s7 s8 m1 m2 m3 m4; obtain ⟨s1, s2, s3, s4, s5, s6, s7, s8⟩ := scells rS8; (simp only at s1 s2 s3 s4 s5 s6 s7); obtain ⟨m1, m2, m3, m4⟩ := kcells rN8; have y2 := rS8.2.1 2; have y3 := rS8.2.1 3; have y4 := rS8.2.1 4; have y5 := rS8.2.1 5) | (go_at_call 19; (with_reducible refine (HM.out _).mono ?_); rintro e w9 ⟨rfl, hS9⟩; have hK9 := ((hK8.setCell hr (.int .i64 xk)).setCell hr (.int .i64 yk)).trans hS9; have rS9 := (sput2 rS8 xk yk).since hS9; clear s1 s2 s3 s4 s5 s6 s7 s8; obtain ⟨s1, s2, s3, s4, s5, s6, s7, s8⟩ := scells rS9; (simp only at s1 s2 s3 s4 s5 s6 s7); have y4 := rS9.2.1 4; have y5 := rS9.2.1 5))
            go_meet
            exact ⟨(hK9.setCell hr _).setCell hr _, sput4 rS9 _ _⟩
          obtain ⟨hS1, rS⟩ := hcut
          clear s1 s2 s3 s4 s5 s6 s7 s8 hSa
          have hS := hS0.trans hS1
          have rH := rH0.since hS1
          have hO := hO0.since hS1
          obtain ⟨h1, h2, h3⟩ := pcells rH
          obtain ⟨s1, s2, s3, s4, s5, s6, s7, s8⟩ := scells rS
          simp only at s1 s2 s3 s4 s5 s6 s7
          have z0 := rH.2.1 0
          have z1 := rH.2.1 1
          have hE0 : sgOk ⟨hx, hy, xk, yk, mx, my, true⟩ = (!(hx == mx && hy == my) || !(xk == hx && yk == hy)) := by unfold sgOk; simp
          clear hE0 hS1 rS0
          by_cases e1 : hx = mx
          · by_cases e2 : hy = my
            · subst e1 e2
              by_cases e4 : hx = xk
              · by_cases e5 : hy = yk
                · subst e4 e5
                  have hE : (!(hx == hx && hy == hy) || (true && !(hx == hx && hy == hy))) = false := by simp
                  have HE := Lib.hid hE
                  clear hE
                  go_wp2_with fail
                  go_roundg (gk - 1)
                  case measure => omega
                  case rel =>
                    refine ⟨i + 1, by omega, by go_num, ?_, ?_, ?_⟩
                    · rw [HS.out]; simp only; unfold addS sgOk; simp only [HE.out]; exact hO.far (by omega) _ _ _ _
                    · rw [HS.out]; exact pput rH hx hy
                    · exact (hS.setCell (by omega) _).setCell (by omega) _
                · subst e4
                  have e6 : (yk == hy) = false := by simp; omega
                  have hE : (!(hx == hx && hy == hy) || (true && !(hx == hx && yk == hy))) = true := by simp [e6]
                  have HE := Lib.hid hE
                  clear hE e5
                  go_upto_region 20 with fail
                  refine wp_named fun wb hwb => ?_
                  have hT7 : Since w wb := by subst hwb; exact (hS.setCell (by omega) _).setCell (by omega) _
                  have hO7 := (show OwnS wb (bh + 1) _ L by subst hwb; exact hO.far (by omega) 0 1 (.int .i64 hx) (.int .i64 hy))
                  have rH7 : Row wb bh 2 (Pf hx hy) := by subst hwb; exact pput rH hx hy
                  have rS7 : Row wb r 7 (Sf ⟨hx, hy, hx, yk, hx, hy, true⟩) := by subst hwb; exact (rS.far hne 0 _).far hne 1 _
                  clear hwb s1 s2 s3 s4 s5 s6 s7 s8 h1 h2 h3 z0 z1
                  obtain ⟨s1, s2, s3, s4, s5, s6, s7, s8⟩ := scells rS7
                  simp only at s1 s2 s3 s4 s5 s6 s7
                  have hbase : bh + 1 ≤ wb.heap.size := rH7.2.2
                  go_wp2_with (at_builtin; refine wpList_append_seg rfl _ _ rfl (bh + 1) _ L rfl (hO7.alloc _) _ 1 ⟨hx, hy, hx, yk, hx, hy, true⟩ rfl (seg_new wb _ rfl ⟨hx, hy, hx, yk, hx, hy, true⟩ _) (by omega) (by simp; omega) ?_; intro v7 w7 hO8 hg7 hb7)
                  go_roundg (gk - 1)
                  case measure => omega
                  case rel =>
                    refine ⟨i + 1, by omega, by go_num, ?_, ?_, ?_⟩
                    · rw [HS.out]; simp only; unfold addS sgOk; simp only [HE.out]; exact hO8
                    · rw [HS.out]; exact (rH7.alloc _).grownO hg7 (fun e => by have := hb7 _ e; omega)
                    · exact since_grown (hT7.alloc _) hg7 (fun q hq => by have := hb7 _ hq; omega)
              · have e6 : (xk == hx) = false := by simp; omega
                have hE : (!(hx == hx && hy == hy) || (true && !(xk == hx && yk == hy))) = true := by simp [e6]
                have HE := Lib.hid hE
                clear hE e4
                go_upto_region 20 with fail
                refine wp_named fun wb hwb => ?_
                have hT7 : Since w wb := by subst hwb; exact (hS.setCell (by omega) _).setCell (by omega) _
                have hO7 := (show OwnS wb (bh + 1) _ L by subst hwb; exact hO.far (by omega) 0 1 (.int .i64 hx) (.int .i64 hy))
                have rH7 : Row wb bh 2 (Pf hx hy) := by subst hwb; exact pput rH hx hy
                have rS7 : Row wb r 7 (Sf ⟨hx, hy, xk, yk, hx, hy, true⟩) := by subst hwb; exact (rS.far hne 0 _).far hne 1 _
                clear hwb s1 s2 s3 s4 s5 s6 s7 s8 h1 h2 h3 z0 z1
                obtain ⟨s1, s2, s3, s4, s5, s6, s7, s8⟩ := scells rS7
                simp only at s1 s2 s3 s4 s5 s6 s7
                have hbase : bh + 1 ≤ wb.heap.size := rH7.2.2
                go_wp2_with (at_builtin; refine wpList_append_seg rfl _ _ rfl (bh + 1) _ L rfl (hO7.alloc _) _ 1 ⟨hx, hy, xk, yk, hx, hy, true⟩ rfl (seg_new wb _ rfl ⟨hx, hy, xk, yk, hx, hy, true⟩ _) (by omega) (by simp; omega) ?_; intro v7 w7 hO8 hg7 hb7)
                go_roundg (gk - 1)
                case measure => omega
                case rel =>
                  refine ⟨i + 1, by omega, by go_num, ?_, ?_, ?_⟩
                  · rw [HS.out]; simp only; unfold addS sgOk; simp only [HE.out]; exact hO8
                  · rw [HS.out]; exact (rH7.alloc _).grownO hg7 (fun e => by have := hb7 _ e; omega)
                  · exact since_grown (hT7.alloc _) hg7 (fun q hq => by have := hb7 _ hq; omega)
            · subst e1
              have e3 : (hy == my) = false := by simp [e2]
              have hE : (!(hx == hx && hy == my) || (true && !(xk == hx && yk == hy))) = true := by simp [e3]
              have HE := Lib.hid hE
              clear hE
              go_upto_region 20 with fail
              refine wp_named fun wb hwb => ?_
              have hT7 : Since w wb := by subst hwb; exact (hS.setCell (by omega) _).setCell (by omega) _
              have hO7 := (show OwnS wb (bh + 1) _ L by subst hwb; exact hO.far (by omega) 0 1 (.int .i64 hx) (.int .i64 my))
              have rH7 : Row wb bh 2 (Pf hx my) := by subst hwb; exact pput rH hx my
              have rS7 : Row wb r 7 (Sf ⟨hx, hy, xk, yk, hx, my, true⟩) := by subst hwb; exact (rS.far hne 0 _).far hne 1 _
              clear hwb s1 s2 s3 s4 s5 s6 s7 s8 h1 h2 h3 z0 z1
              obtain ⟨s1, s2, s3, s4, s5, s6, s7, s8⟩ := scells rS7
              simp only at s1 s2 s3 s4 s5 s6 s7
              have hbase : bh + 1 ≤ wb.heap.size := rH7.2.2
              go_wp2_with (at_builtin; refine wpList_append_seg rfl _ _ rfl (bh + 1) _ L rfl (hO7.alloc _) _ 1 ⟨hx, hy, xk, yk, hx, my, true⟩ rfl (seg_new wb _ rfl ⟨hx, hy, xk, yk, hx, my, true⟩ _) (by omega) (by simp; omega) ?_; intro v7 w7 hO8 hg7 hb7)
              go_roundg (gk - 1)
              case measure => omega
              case rel =>
                refine ⟨i + 1, by omega, by go_num, ?_, ?_, ?_⟩
                · rw [HS.out]; simp only; unfold addS sgOk; simp only [HE.out]; exact hO8
                · rw [HS.out]; exact (rH7.alloc _).grownO hg7 (fun e => by have := hb7 _ e; omega)
                · exact since_grown (hT7.alloc _) hg7 (fun q hq => by have := hb7 _ hq; omega)
          · have e3 : (hx == mx) = false := by simp [e1]
            have hE : (!(hx == mx && hy == my) || (true && !(xk == hx && yk == hy))) = true := by simp [e3]
            have HE := Lib.hid hE
            clear hE
            go_upto_region 20 with fail
            refine wp_named fun wb hwb => ?_
            have hT7 : Since w wb := by subst hwb; exact (hS.setCell (by omega) _).setCell (by omega) _
            have hO7 := (show OwnS wb (bh + 1) _ L by subst hwb; exact hO.far (by omega) 0 1 (.int .i64 mx) (.int .i64 my))
            have rH7 : Row wb bh 2 (Pf mx my) := by subst hwb; exact pput rH mx my
            have rS7 : Row wb r 7 (Sf ⟨hx, hy, xk, yk, mx, my, true⟩) := by subst hwb; exact (rS.far hne 0 _).far hne 1 _
            clear hwb s1 s2 s3 s4 s5 s6 s7 s8 h1 h2 h3 z0 z1
            obtain ⟨s1, s2, s3, s4, s5, s6, s7, s8⟩ := scells rS7
            simp only at s1 s2 s3 s4 s5 s6 s7
            have hbase : bh + 1 ≤ wb.heap.size := rH7.2.2
            go_wp2_with (at_builtin; refine wpList_append_seg rfl _ _ rfl (bh + 1) _ L rfl (hO7.alloc _) _ 1 ⟨hx, hy, xk, yk, mx, my, true⟩ rfl (seg_new wb _ rfl ⟨hx, hy, xk, yk, mx, my, true⟩ _) (by omega) (by simp; omega) ?_; intro v7 w7 hO8 hg7 hb7)
            go_roundg (gk - 1)
            case measure => omega
            case rel =>
              refine ⟨i + 1, by omega, by go_num, ?_, ?_, ?_⟩
              · rw [HS.out]; simp only; unfold addS sgOk; simp only [HE.out]; exact hO8
              · rw [HS.out]; exact (rH7.alloc _).grownO hg7 (fun e => by have := hb7 _ e; omega)
              · exact since_grown (hT7.alloc _) hg7 (fun q hq => by have := hb7 _ hq; omega)
        · rw [hom] at m3
          rw [hok, hom] at HS
          simp only [eq_self, if_true, if_false, Bool.false_eq_true] at HS
          go_wp2_with fail
          refine wp_named fun wa hwa => ?_
          obtain rfl := hwa
          go_cut [9] (fun z wx => ∃ r : Nat, z = .pointer (some ⟨r, 0, none⟩) ∧ wa.heap.size ≤ r ∧ Since wa wx ∧ Row wx r 7 (Sf ⟨hx, hy, 0, 0, xm, ym, true⟩))
          case first =>
            clear rH rK rN hO hS HS HX HC HI HF HST hmax
            (refine wp_named fun wr7 hwr7 => ?_; go_region_held3 (fun w' => (∀ b o, b < wr7.heap.size → w'.cell? ⟨b, o, none⟩ = wr7.cell? ⟨b, o, none⟩) ∧ (∀ b o, b < wr7.heap.size → w'.frozen? ⟨b, o, none⟩ = wr7.frozen? ⟨b, o, none⟩) ∧ (∀ k, k < wr7.heap.size → k < w'.heap.size) ∧ Below wr7.heap.size wr7 w') ((subst hwr7; (repeat (with_reducible (refine since_put ?_ ?_ _); rotate_left; focus (first | (simp; done) | (simp; omega) | omega))); first | with_reducible assumption | (refine since_step (by with_reducible assumption) ?_; first | with_reducible assumption | ((repeat (first | with_reducible (exact Since.refl _) | with_reducible assumption | with_reducible (refine Since.drew ?_) | with_reducible (refine Since.drewN ?_ _) | with_reducible (refine Since.alloc ?_ _) | (with_reducible (refine Since.setCell ?_ ?_ _); rotate_left; focus (first | (simp; done) | (simp; omega) | omega)))); done)) | (refine since_step (Since.refl _) ?_; first | with_reducible assumption | ((repeat (first | with_reducible (exact Since.refl _) | with_reducible assumption | with_reducible (refine Since.drew ?_) | with_reducible (refine Since.drewN ?_ _) | with_reducible (refine Since.alloc ?_ _) | (with_reducible (refine Since.setCell ?_ ?_ _); rotate_left; focus (first | (simp; done) | (simp; omega) | omega)) | (with_reducible (refine Since.trans ?_ (by with_reducible assumption))))); done)))) (first | (go_at_call 48; (with_reducible refine (HP.out _ _ _ _).mono ?_); rintro e w8 ⟨rfl, hS8⟩; have hT8 := hS8; obtain ⟨hc8, hf8, hz8, hb8⟩ := hT8; have hZ8 := hS8.below.size; (try simp at hZ8); (try have hq8 := hz8 wa.heap.size (by first | with_reducible assumption | (simp; done) | (simp; omega))))); all_goals (rename_i hHeld; have hR7 : Since wr7 _ := hHeld; obtain ⟨hcR7, hfR7, hzR7, hbR7⟩ := hHeld; subst hwr7))
            all_goals (go_wp2_with fail)
            all_goals go_meet
            all_goals refine ⟨_, rfl, ?_, ?_, ?_⟩
            any_goals ((show _ ≤ _); first | omega | (simp; omega))
            any_goals ((show Since _ _); (repeat (first | with_reducible (exact Since.refl _) | with_reducible assumption | with_reducible (refine Since.drew ?_) | with_reducible (refine Since.drewN ?_ _) | with_reducible (refine Since.alloc ?_ _) | (with_reducible (refine Since.setCell ?_ ?_ _); rotate_left; focus (first | (simp; done) | (simp; omega) | omega)) | (with_reducible (refine Since.trans ?_ (by with_reducible assumption))))); done)
            all_goals (repeat (first | with_reducible assumption | (with_reducible (refine srow _ _ ?_ _ ⟨hx, hy, 0, 0, xm, ym, true⟩); focus (first | with_reducible rfl | (simp; done))) | (with_reducible (refine srow _ _ ?_ _ ⟨0, 0, 0, 0, 0, 0, false⟩); focus (first | with_reducible rfl | (simp; done))) | with_reducible (refine sput (s0 := ⟨0, 0, 0, 0, 0, 0, false⟩) ?_ ⟨hx, hy, 0, 0, xm, ym, true⟩) | with_reducible (refine Row.drew ?_) | with_reducible (refine Row.alloc ?_ _) | with_reducible (refine Row.since ?_ hS8)))
          obtain ⟨r, rfl, hr, hS1, rS⟩ := hcut
          have hq1 : q ≠ r := by have := rN.2.2; omega
          have hq2 : r ≠ q := fun e => hq1 e.symm
          have hp1 : p ≠ r := by have := rK.2.2; omega
          have hp2 : r ≠ p := fun e => hp1 e.symm
          have hS0 := hS
          have rH0 := rH
          have hO0 := hO
          have rS0 := True.intro
          have HSA := Lib.hid hS1
          have hS := hS.trans hS1
          have rH := rH.since hS1
          have hO := hO.since hS1
          have rK := rK.since hS1
          have rN := rN.since hS1
          have hne : bh ≠ r := by omega
          have hz2 := hS1.below.size
          clear hS1 k1 k2 k3 k4 m1 m2 m3 m4 h1 h2 h3
          obtain ⟨k1, k2, k3, k4⟩ := kcells rK
          obtain ⟨m1, m2, m3, m4⟩ := kcells rN
          obtain ⟨h1, h2, h3⟩ := pcells rH
          obtain ⟨s1, s2, s3, s4, s5, s6, s7, s8⟩ := scells rS
          simp only at s1 s2 s3 s4 s5 s6 s7
          have z0 := rH.2.1 0
          have z1 := rH.2.1 1
          have hSa := HSA.out
          go_upto_if 75 with fail
          go_cut [] (fun wy => Since wa wy ∧ Row wy r 7 (Sf ⟨hx, hy, xk, yk, xm, ym, true⟩))
          case first =>
            go_wp2_with (go_at_call 48; (with_reducible refine (HP.out _ _ _ _).mono ?_); rintro e w8 ⟨rfl, hS8⟩; have hK8 := hSa.trans hS8; have rS8 := rS.since hS8; have rN8 := rN.since hS8; clear s1 s2 s3 s4 s5 s6 s7 s8 m1 m2 m3 m4; obtain ⟨s1, s2, s3, s4, s5, s6, s7, s8⟩ := scells rS8; (simp only at s1 s2 s3 s4 s5 s6 s7); obtain ⟨m1, m2, m3, m4⟩ := kcells rN8; have y2 := rS8.2.1 2; have y3 := rS8.2.1 3; have y4 := rS8.2.1 4; have y5 := rS8.2.1 5)
            go_meet
            exact ⟨(hK8.setCell hr _).setCell hr _, sput2 rS8 _ _⟩
          obtain ⟨hS1, rS⟩ := hcut
          clear s1 s2 s3 s4 s5 s6 s7 s8 hSa
          have hS := hS0.trans hS1
          have rH := rH0.since hS1
          have hO := hO0.since hS1
          obtain ⟨h1, h2, h3⟩ := pcells rH
          obtain ⟨s1, s2, s3, s4, s5, s6, s7, s8⟩ := scells rS
          simp only at s1 s2 s3 s4 s5 s6 s7
          have z0 := rH.2.1 0
          have z1 := rH.2.1 1
          have hE0 : sgOk ⟨hx, hy, xk, yk, xm, ym, true⟩ = (!(hx == xm && hy == ym) || !(xk == hx && yk == hy)) := by unfold sgOk; simp
          clear hE0 hS1 rS0
          by_cases e1 : hx = xm
          · by_cases e2 : hy = ym
            · subst e1 e2
              by_cases e4 : hx = xk
              · by_cases e5 : hy = yk
                · subst e4 e5
                  have hE : (!(hx == hx && hy == hy) || (true && !(hx == hx && hy == hy))) = false := by simp
                  have HE := Lib.hid hE
                  clear hE
                  go_wp2_with fail
                  go_roundg (gk - 1)
                  case measure => omega
                  case rel =>
                    refine ⟨i + 1, by omega, by go_num, ?_, ?_, ?_⟩
                    · rw [HS.out]; simp only; unfold addS sgOk; simp only [HE.out]; exact hO.far (by omega) _ _ _ _
                    · rw [HS.out]; exact pput rH hx hy
                    · exact (hS.setCell (by omega) _).setCell (by omega) _
                · subst e4
                  have e6 : (yk == hy) = false := by simp; omega
                  have hE : (!(hx == hx && hy == hy) || (true && !(hx == hx && yk == hy))) = true := by simp [e6]
                  have HE := Lib.hid hE
                  clear hE e5
                  go_upto_region 20 with fail
                  refine wp_named fun wb hwb => ?_
                  have hT7 : Since w wb := by subst hwb; exact (hS.setCell (by omega) _).setCell (by omega) _
                  have hO7 := (show OwnS wb (bh + 1) _ L by subst hwb; exact hO.far (by omega) 0 1 (.int .i64 hx) (.int .i64 hy))
                  have rH7 : Row wb bh 2 (Pf hx hy) := by subst hwb; exact pput rH hx hy
                  have rS7 : Row wb r 7 (Sf ⟨hx, hy, hx, yk, hx, hy, true⟩) := by subst hwb; exact (rS.far hne 0 _).far hne 1 _
                  clear hwb s1 s2 s3 s4 s5 s6 s7 s8 h1 h2 h3 z0 z1
                  obtain ⟨s1, s2, s3, s4, s5, s6, s7, s8⟩ := scells rS7
                  simp only at s1 s2 s3 s4 s5 s6 s7
                  have hbase : bh + 1 ≤ wb.heap.size := rH7.2.2
                  go_wp2_with (at_builtin; refine wpList_append_seg rfl _ _ rfl (bh + 1) _ L rfl (hO7.alloc _) _ 1 ⟨hx, hy, hx, yk, hx, hy, true⟩ rfl (seg_new wb _ rfl ⟨hx, hy, hx, yk, hx, hy, true⟩ _) (by omega) (by simp; omega) ?_; intro v7 w7 hO8 hg7 hb7)
                  go_roundg (gk - 1)
                  case measure => omega
                  case rel =>
                    refine ⟨i + 1, by omega, by go_num, ?_, ?_, ?_⟩
                    · rw [HS.out]; simp only; unfold addS sgOk; simp only [HE.out]; exact hO8
                    · rw [HS.out]; exact (rH7.alloc _).grownO hg7 (fun e => by have := hb7 _ e; omega)
                    · exact since_grown (hT7.alloc _) hg7 (fun q hq => by have := hb7 _ hq; omega)
              · have e6 : (xk == hx) = false := by simp; omega
                have hE : (!(hx == hx && hy == hy) || (true && !(xk == hx && yk == hy))) = true := by simp [e6]
                have HE := Lib.hid hE
                clear hE e4
                go_upto_region 20 with fail
                refine wp_named fun wb hwb => ?_
                have hT7 : Since w wb := by subst hwb; exact (hS.setCell (by omega) _).setCell (by omega) _
                have hO7 := (show OwnS wb (bh + 1) _ L by subst hwb; exact hO.far (by omega) 0 1 (.int .i64 hx) (.int .i64 hy))
                have rH7 : Row wb bh 2 (Pf hx hy) := by subst hwb; exact pput rH hx hy
                have rS7 : Row wb r 7 (Sf ⟨hx, hy, xk, yk, hx, hy, true⟩) := by subst hwb; exact (rS.far hne 0 _).far hne 1 _
                clear hwb s1 s2 s3 s4 s5 s6 s7 s8 h1 h2 h3 z0 z1
                obtain ⟨s1, s2, s3, s4, s5, s6, s7, s8⟩ := scells rS7
                simp only at s1 s2 s3 s4 s5 s6 s7
                have hbase : bh + 1 ≤ wb.heap.size := rH7.2.2
                go_wp2_with (at_builtin; refine wpList_append_seg rfl _ _ rfl (bh + 1) _ L rfl (hO7.alloc _) _ 1 ⟨hx, hy, xk, yk, hx, hy, true⟩ rfl (seg_new wb _ rfl ⟨hx, hy, xk, yk, hx, hy, true⟩ _) (by omega) (by simp; omega) ?_; intro v7 w7 hO8 hg7 hb7)
                go_roundg (gk - 1)
                case measure => omega
                case rel =>
                  refine ⟨i + 1, by omega, by go_num, ?_, ?_, ?_⟩
                  · rw [HS.out]; simp only; unfold addS sgOk; simp only [HE.out]; exact hO8
                  · rw [HS.out]; exact (rH7.alloc _).grownO hg7 (fun e => by have := hb7 _ e; omega)
                  · exact since_grown (hT7.alloc _) hg7 (fun q hq => by have := hb7 _ hq; omega)
            · subst e1
              have e3 : (hy == ym) = false := by simp [e2]
              have hE : (!(hx == hx && hy == ym) || (true && !(xk == hx && yk == hy))) = true := by simp [e3]
              have HE := Lib.hid hE
              clear hE
              go_upto_region 20 with fail
              refine wp_named fun wb hwb => ?_
              have hT7 : Since w wb := by subst hwb; exact (hS.setCell (by omega) _).setCell (by omega) _
              have hO7 := (show OwnS wb (bh + 1) _ L by subst hwb; exact hO.far (by omega) 0 1 (.int .i64 hx) (.int .i64 ym))
              have rH7 : Row wb bh 2 (Pf hx ym) := by subst hwb; exact pput rH hx ym
              have rS7 : Row wb r 7 (Sf ⟨hx, hy, xk, yk, hx, ym, true⟩) := by subst hwb; exact (rS.far hne 0 _).far hne 1 _
              clear hwb s1 s2 s3 s4 s5 s6 s7 s8 h1 h2 h3 z0 z1
              obtain ⟨s1, s2, s3, s4, s5, s6, s7, s8⟩ := scells rS7
              simp only at s1 s2 s3 s4 s5 s6 s7
              have hbase : bh + 1 ≤ wb.heap.size := rH7.2.2
              go_wp2_with (at_builtin; refine wpList_append_seg rfl _ _ rfl (bh + 1) _ L rfl (hO7.alloc _) _ 1 ⟨hx, hy, xk, yk, hx, ym, true⟩ rfl (seg_new wb _ rfl ⟨hx, hy, xk, yk, hx, ym, true⟩ _) (by omega) (by simp; omega) ?_; intro v7 w7 hO8 hg7 hb7)
              go_roundg (gk - 1)
              case measure => omega
              case rel =>
                refine ⟨i + 1, by omega, by go_num, ?_, ?_, ?_⟩
                · rw [HS.out]; simp only; unfold addS sgOk; simp only [HE.out]; exact hO8
                · rw [HS.out]; exact (rH7.alloc _).grownO hg7 (fun e => by have := hb7 _ e; omega)
                · exact since_grown (hT7.alloc _) hg7 (fun q hq => by have := hb7 _ hq; omega)
          · have e3 : (hx == xm) = false := by simp [e1]
            have hE : (!(hx == xm && hy == ym) || (true && !(xk == hx && yk == hy))) = true := by simp [e3]
            have HE := Lib.hid hE
            clear hE
            go_upto_region 20 with fail
            refine wp_named fun wb hwb => ?_
            have hT7 : Since w wb := by subst hwb; exact (hS.setCell (by omega) _).setCell (by omega) _
            have hO7 := (show OwnS wb (bh + 1) _ L by subst hwb; exact hO.far (by omega) 0 1 (.int .i64 xm) (.int .i64 ym))
            have rH7 : Row wb bh 2 (Pf xm ym) := by subst hwb; exact pput rH xm ym
            have rS7 : Row wb r 7 (Sf ⟨hx, hy, xk, yk, xm, ym, true⟩) := by subst hwb; exact (rS.far hne 0 _).far hne 1 _
            clear hwb s1 s2 s3 s4 s5 s6 s7 s8 h1 h2 h3 z0 z1
            obtain ⟨s1, s2, s3, s4, s5, s6, s7, s8⟩ := scells rS7
            simp only at s1 s2 s3 s4 s5 s6 s7
            have hbase : bh + 1 ≤ wb.heap.size := rH7.2.2
            go_wp2_with (at_builtin; refine wpList_append_seg rfl _ _ rfl (bh + 1) _ L rfl (hO7.alloc _) _ 1 ⟨hx, hy, xk, yk, xm, ym, true⟩ rfl (seg_new wb _ rfl ⟨hx, hy, xk, yk, xm, ym, true⟩ _) (by omega) (by simp; omega) ?_; intro v7 w7 hO8 hg7 hb7)
            go_roundg (gk - 1)
            case measure => omega
            case rel =>
              refine ⟨i + 1, by omega, by go_num, ?_, ?_, ?_⟩
              · rw [HS.out]; simp only; unfold addS sgOk; simp only [HE.out]; exact hO8
              · rw [HS.out]; exact (rH7.alloc _).grownO hg7 (fun e => by have := hb7 _ e; omega)
              · exact since_grown (hT7.alloc _) hg7 (fun q hq => by have := hb7 _ hq; omega)
      · rw [hok] at k3
        cases hom : O m
        · rw [hom] at m3
          go_wp2_with fail
          go_roundg (gk - 1)
          case measure => omega
          case rel =>
            refine ⟨i + 1, by omega, by go_num, ?_, ?_, hS⟩
            · rw [HS.out, hok, hom]; exact hO
            · rw [HS.out, hok, hom]; exact rH
        · rw [hom] at m3
          go_wp2_with fail
          refine wp_named fun wa hwa => ?_
          obtain rfl := hwa
          go_cut [9] (fun z wx => ∃ r : Nat, z = .pointer (some ⟨r, 0, none⟩) ∧ wa.heap.size ≤ r ∧ Since wa wx ∧ Row wx r 7 (Sf ⟨hx, hy, 0, 0, xm, ym, false⟩))
          case first =>
            clear rH rK rN hO hS HS HX HC HI HF HST hmax
            (refine wp_named fun wr7 hwr7 => ?_; go_region_held3 (fun w' => (∀ b o, b < wr7.heap.size → w'.cell? ⟨b, o, none⟩ = wr7.cell? ⟨b, o, none⟩) ∧ (∀ b o, b < wr7.heap.size → w'.frozen? ⟨b, o, none⟩ = wr7.frozen? ⟨b, o, none⟩) ∧ (∀ k, k < wr7.heap.size → k < w'.heap.size) ∧ Below wr7.heap.size wr7 w') ((subst hwr7; (repeat (with_reducible (refine since_put ?_ ?_ _); rotate_left; focus (first | (simp; done) | (simp; omega) | omega))); first | with_reducible assumption | (refine since_step (by with_reducible assumption) ?_; first | with_reducible assumption | ((repeat (first | with_reducible (exact Since.refl _) | with_reducible assumption | with_reducible (refine Since.drew ?_) | with_reducible (refine Since.drewN ?_ _) | with_reducible (refine Since.alloc ?_ _) | (with_reducible (refine Since.setCell ?_ ?_ _); rotate_left; focus (first | (simp; done) | (simp; omega) | omega)))); done)) | (refine since_step (Since.refl _) ?_; first | with_reducible assumption | ((repeat (first | with_reducible (exact Since.refl _) | with_reducible assumption | with_reducible (refine Since.drew ?_) | with_reducible (refine Since.drewN ?_ _) | with_reducible (refine Since.alloc ?_ _) | (with_reducible (refine Since.setCell ?_ ?_ _); rotate_left; focus (first | (simp; done) | (simp; omega) | omega)) | (with_reducible (refine Since.trans ?_ (by with_reducible assumption))))); done)))) (first | (go_at_call 48; (with_reducible refine (HP.out _ _ _ _).mono ?_); rintro e w8 ⟨rfl, hS8⟩; have hT8 := hS8; obtain ⟨hc8, hf8, hz8, hb8⟩ := hT8; have hZ8 := hS8.below.size; (try simp at hZ8); (try have hq8 := hz8 wa.heap.size (by first | with_reducible assumption | (simp; done) | (simp; omega))))); all_goals (rename_i hHeld; have hR7 : Since wr7 _ := hHeld; obtain ⟨hcR7, hfR7, hzR7, hbR7⟩ := hHeld; subst hwr7))
            all_goals (go_wp2_with fail)
            all_goals go_meet
            all_goals refine ⟨_, rfl, ?_, ?_, ?_⟩
            any_goals ((show _ ≤ _); first | omega | (simp; omega))
            any_goals ((show Since _ _); (repeat (first | with_reducible (exact Since.refl _) | with_reducible assumption | with_reducible (refine Since.drew ?_) | with_reducible (refine Since.drewN ?_ _) | with_reducible (refine Since.alloc ?_ _) | (with_reducible (refine Since.setCell ?_ ?_ _); rotate_left; focus (first | (simp; done) | (simp; omega) | omega)) | (with_reducible (refine Since.trans ?_ (by with_reducible assumption))))); done)
            all_goals (repeat (first | with_reducible assumption | (with_reducible (refine srow _ _ ?_ _ ⟨hx, hy, 0, 0, xm, ym, false⟩); focus (first | with_reducible rfl | (simp; done))) | (with_reducible (refine srow _ _ ?_ _ ⟨0, 0, 0, 0, 0, 0, false⟩); focus (first | with_reducible rfl | (simp; done))) | with_reducible (refine sput (s0 := ⟨0, 0, 0, 0, 0, 0, false⟩) ?_ ⟨hx, hy, 0, 0, xm, ym, false⟩) | with_reducible (refine Row.drew ?_) | with_reducible (refine Row.alloc ?_ _) | with_reducible (refine Row.since ?_ hS8)))
          obtain ⟨r, rfl, hr, hS1, rS⟩ := hcut
          have hS := hS.trans hS1
          have rH := rH.since hS1
          have hO := hO.since hS1
          have rK := rK.since hS1
          have rN := rN.since hS1
          have hne : bh ≠ r := by omega
          have hz2 := hS1.below.size
          clear hS1 k1 k2 k3 k4 m1 m2 m3 m4 h1 h2 h3
          obtain ⟨k1, k2, k3, k4⟩ := kcells rK
          obtain ⟨m1, m2, m3, m4⟩ := kcells rN
          obtain ⟨h1, h2, h3⟩ := pcells rH
          obtain ⟨s1, s2, s3, s4, s5, s6, s7, s8⟩ := scells rS
          simp only at s1 s2 s3 s4 s5 s6 s7
          have z0 := rH.2.1 0
          have z1 := rH.2.1 1
          by_cases e1 : hx = xm
          · by_cases e2 : hy = ym
            · subst e1 e2
              go_wp2_with fail
              go_roundg (gk - 1)
              case measure => omega
              case rel =>
                refine ⟨i + 1, by omega, by go_num, ?_, ?_, ?_⟩
                · rw [HS.out, hok, hom]; simp only [if_true]; unfold addS sgOk; simp; exact hO.far (by omega) _ _ _ _
                · rw [HS.out, hok, hom]; simp only [if_true]; exact pput rH hx hy
                · exact (hS.setCell (by omega) _).setCell (by omega) _
            · subst e1
              have hE : (hx == hx && hy == ym) = false := by simp [e2]
              have HE := Lib.hid hE
              have e3 : (hy == ym) = false := by simp [e2]
              clear hE
              go_upto_region 20 with fail
              refine wp_named fun wb hwb => ?_
              have hT7 : Since w wb := by subst hwb; exact (hS.setCell (by omega) _).setCell (by omega) _
              have hO7 := (show OwnS wb (bh + 1) _ L by subst hwb; exact hO.far (by omega) 0 1 (.int .i64 hx) (.int .i64 ym))
              have rH7 : Row wb bh 2 (Pf hx ym) := by subst hwb; exact pput rH hx ym
              have rS7 : Row wb r 7 (Sf ⟨hx, hy, 0, 0, hx, ym, false⟩) := by subst hwb; exact (rS.far hne 0 _).far hne 1 _
              clear hwb s1 s2 s3 s4 s5 s6 s7 s8 h1 h2 h3 k1 k2 k3 k4 m1 m2 m3 m4 z0 z1
              obtain ⟨s1, s2, s3, s4, s5, s6, s7, s8⟩ := scells rS7
              simp only at s1 s2 s3 s4 s5 s6 s7
              have hbase : bh + 1 ≤ wb.heap.size := rH7.2.2
              go_wp2_with (at_builtin; refine wpList_append_seg rfl _ _ rfl (bh + 1) _ L rfl (hO7.alloc _) _ 1 ⟨hx, hy, 0, 0, hx, ym, false⟩ rfl (seg_new wb _ rfl ⟨hx, hy, 0, 0, hx, ym, false⟩ _) (by omega) (by simp; omega) ?_; intro v7 w7 hO8 hg7 hb7)
              go_roundg (gk - 1)
              case measure => omega
              case rel =>
                refine ⟨i + 1, by omega, by go_num, ?_, ?_, ?_⟩
                · rw [HS.out, hok, hom]; simp only [if_true]; unfold addS sgOk; simp only [HE.out]; exact hO8
                · rw [HS.out, hok, hom]; simp only [if_true]; exact (rH7.alloc _).grownO hg7 (fun e => by have := hb7 _ e; omega)
                · exact since_grown (hT7.alloc _) hg7 (fun q hq => by have := hb7 _ hq; omega)
          · have hE : (hx == xm && hy == ym) = false := by simp [e1]
            have HE := Lib.hid hE
            have e3 : (hx == xm) = false := by simp [e1]
            clear hE
            go_upto_region 20 with fail
            refine wp_named fun wb hwb => ?_
            have hT7 : Since w wb := by subst hwb; exact (hS.setCell (by omega) _).setCell (by omega) _
            have hO7 := (show OwnS wb (bh + 1) _ L by subst hwb; exact hO.far (by omega) 0 1 (.int .i64 xm) (.int .i64 ym))
            have rH7 : Row wb bh 2 (Pf xm ym) := by subst hwb; exact pput rH xm ym
            have rS7 : Row wb r 7 (Sf ⟨hx, hy, 0, 0, xm, ym, false⟩) := by subst hwb; exact (rS.far hne 0 _).far hne 1 _
            clear hwb s1 s2 s3 s4 s5 s6 s7 s8 h1 h2 h3 k1 k2 k3 k4 m1 m2 m3 m4 z0 z1
            obtain ⟨s1, s2, s3, s4, s5, s6, s7, s8⟩ := scells rS7
            simp only at s1 s2 s3 s4 s5 s6 s7
            have hbase : bh + 1 ≤ wb.heap.size := rH7.2.2
            go_wp2_with (at_builtin; refine wpList_append_seg rfl _ _ rfl (bh + 1) _ L rfl (hO7.alloc _) _ 1 ⟨hx, hy, 0, 0, xm, ym, false⟩ rfl (seg_new wb _ rfl ⟨hx, hy, 0, 0, xm, ym, false⟩ _) (by omega) (by simp; omega) ?_; intro v7 w7 hO8 hg7 hb7)
            go_roundg (gk - 1)
            case measure => omega
            case rel =>
              refine ⟨i + 1, by omega, by go_num, ?_, ?_, ?_⟩
              · rw [HS.out, hok, hom]; simp only [if_true]; unfold addS sgOk; simp only [HE.out]; exact hO8
              · rw [HS.out, hok, hom]; simp only [if_true]; exact (rH7.alloc _).grownO hg7 (fun e => by have := hb7 _ e; omega)
              · exact since_grown (hT7.alloc _) hg7 (fun q hq => by have := hb7 _ hq; omega)
    · obtain rfl : i = n := by omega
      go_wp2_with fail
      go_ret
      refine ⟨_, bh + 1, rfl, by omega, ?_, hS⟩
      have e : segsL i X Y O = (runS f i X Y O st i).2 := by unfold segsL; rw [if_neg (by omega), HF.out, HST.out]
      rw [e]
      exact hO
end Go.Proofs.Ytdbenpncnkfliaa
