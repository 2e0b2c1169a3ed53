/-
  Texts of this seat, put together: each with its own head.
-/
import Derived.Test.YtdbenpncnkfliaaFlBf
import Derived.Deep.CutBlock
import Derived.Deep.DeepCutAuto

/-
  Layer 11: the reference's 'Segs', walked.
-/
namespace Go.Proofs.Ytdbenpncnkfliaa
open Go.RowKit Go.ChangeShapes Go.WideShapes Go.Deep
set_option linter.unusedVariables false

def knL (k : Kt) : List Value := [.int .i64 k.x, .int .i64 k.y, .bool k.o]
theorem knL_len (k : Kt) : (knL k).length = 3 := rfl
theorem knL_one (k : Kt) : ∀ u ∈ knL k, u.oneCell' = true := by
  intro u hu
  simp only [knL, List.mem_cons, List.not_mem_nil, or_false] at hu
  rcases hu with rfl | rfl | rfl <;> rfl
theorem infoKn0 : (Try.prog.info? 39).map (fun i => (i.zero, i.size, i.bytes)) = some (some (.agg #[.int .i64 0, .int .i64 0, .bool false]), 3, 24) := by kernel_rfl
theorem infoKn : ∃ i z, Try.prog.info? 39 = some i ∧ i.zero = some z ∧ i.size = 3 ∧ i.bytes = 24 ∧ z.cells.size = 3 := by
  obtain ⟨i0, hi, hz0, hz1, hz2⟩ := info_parts infoKn0
  exact ⟨i0, _, hi, hz0, hz1, hz2, rfl⟩
abbrev OwnK (w : World) (base : Nat) (v : Value) (L : List Kt) : Prop := OwnG 39 3 knL w base v L
abbrev RdKl (w : World) (B : Nat) (A : Option Addr) (L : List Kt) : Prop := RdG 3 knL w B A L
theorem kn_one (w : World) (b : Nat) (hb : b = w.heap.size) (ty : TypeId) (k : Kt) : RdKl (w.alloc (.cells #[.int .i64 k.x, .int .i64 k.y, .bool k.o] ty)) (w.alloc (.cells #[.int .i64 k.x, .int .i64 k.y, .bool k.o] ty)).heap.size (some ⟨b, 0, none⟩) [k] :=
  rdG_one hb k (fun i hi => by
    have h : i = 0 ∨ i = 1 ∨ i = 2 := by omega
    rcases h with rfl | rfl | rfl <;> rfl)
/-- append of one knot, just built. -/
theorem wpList_append_kn {w : World} {ops : Array Oper} {rest : List Oper} {o : Oper} {a : Act} {Q : Exit → Act → World → Prop} (hgd : o.guard = none) (s x : Operand)
    (ho : o.op = .call { callee := .builtin .append, args := #[s, x], argTypes := #[22, 22] })
    (base : Nat) (v : Value) (L : List Kt) (hs : a.eval s = v) (hown : OwnK w base v L) (B b c : Nat) (p : Kt) (hx : a.eval x = .slice (some ⟨b, 0, none⟩) 1 c) (hp : RdKl w B (some ⟨b, 0, none⟩) [p]) (hL : L.length ≤ 3000000) (hbase : base ≤ w.heap.size)
    (h : ∀ v' w', OwnK w' base v' (L ++ [p]) → w.grownBy w' v.ownBlock → (∀ q, v.ownBlock = some q → base ≤ q ∧ q < w.heap.size) → wpList Try.prog ops Q rest (a.put o.dst v') w') :
    wpList Try.prog ops Q (o :: rest) a w :=
  wpList_append_g hgd s x 22 39 ho (by omega) knL_len knL_one 24 Try.underlying22 infoKn base v L hs hown B _ c [p] hx hp (by simp only [List.length_cons, List.length_nil]; omega) (by simp only [List.length_cons, List.length_nil, maxLen]; omega) hbase h
theorem cut_step {W : List Kt} {w0 : Kt} (hw : w0.o = true) (hlast : W.getLast? = some w0) {i : Nat} {k : Kt} (hk : W[i]? = some k) (h : Int × Int) (L : List Sg) :
    ∃ j cx cy cur k2, j < W.length ∧ W[j]? = some k2 ∧ cutR h L (W.drop i) = cutR (k2.x, k2.y) (addS L ⟨h.1, h.2, cx, cy, k2.x, k2.y, cur⟩) (W.drop (j + 1)) ∧
      ((k.o = true ∧ j = i ∧ cx = 0 ∧ cy = 0 ∧ cur = false) ∨ (k.o = false ∧ j = i + 1 ∧ cx = k.x ∧ cy = k.y ∧ cur = true)) := by
  have hil : i < W.length := by
    rcases Nat.lt_or_ge i W.length with h | h
    · exact h
    · rw [List.getElem?_eq_none h] at hk; cases hk
  have hki : W[i] = k := by rw [List.getElem?_eq_getElem hil] at hk; injection hk
  cases ho : k.o with
  | true =>
    refine ⟨i, 0, 0, false, k, hil, hk, ?_, .inl ⟨rfl, rfl, rfl, rfl, rfl⟩⟩
    rw [List.drop_eq_getElem_cons hil, hki, cutR_on _ _ _ _ ho]
  | false =>
    have hi2 : i + 1 < W.length := by
      rcases Nat.lt_or_ge (i + 1) W.length with h | h
      · exact h
      · have e : i = W.length - 1 := by omega
        rw [List.getLast?_eq_getElem?, ← e, hk] at hlast
        injection hlast with hlast
        rw [hlast, hw] at ho
        cases ho
    refine ⟨i + 1, k.x, k.y, true, W[i + 1], hi2, List.getElem?_eq_getElem hi2, ?_, .inr ⟨rfl, rfl, rfl, rfl, rfl⟩⟩
    rw [List.drop_eq_getElem_cons hil, hki, List.drop_eq_getElem_cons hi2, cutR_off _ _ _ _ _ ho]
theorem sput6 {w : World} {b : Nat} {ax ay cx cy bx bz : Int} {k : Bool} (h : Row w b 7 (Sf ⟨ax, ay, cx, cy, bx, bz, k⟩)) (x : Bool) : Row (w.setCell ⟨b, 6, none⟩ (.bool x)) b 7 (Sf ⟨ax, ay, cx, cy, bx, bz, x⟩) := by
  refine (h.set 6 _).congr fun j hj => ?_
  have hh : j = 0 ∨ j = 1 ∨ j = 2 ∨ j = 3 ∨ j = 4 ∨ j = 5 ∨ j = 6 := by omega
  rcases hh with rfl | rfl | rfl | rfl | rfl | rfl | rfl <;> rfl
theorem sgL_len (s : Sg) : (sgL s).length = 7 := rfl
theorem infoSg : ∃ i z, Try.prog.info? 37 = some i ∧ i.zero = some z ∧ i.size = 7 ∧ i.bytes = 56 ∧ z.cells.size = 7 := by
  obtain ⟨i0, hi, hz0, hz1, hz2⟩ := info_parts infoSeg
  exact ⟨i0, _, hi, hz0, hz1, hz2, rfl⟩
/-- append of one piece, just built. -/
theorem wpList_append_sg {w : World} {ops : Array Oper} {rest : List Oper} {o : Oper} {a : Act} {Q : Exit → Act → World → Prop} (hgd : o.guard = none) (s x : Operand)
    (ho : o.op = .call { callee := .builtin .append, args := #[s, x], argTypes := #[25, 25] })
    (base : Nat) (v : Value) (L : List Sg) (hs : a.eval s = v) (hown : OwnS w base v L) (b c : Nat) (p : Sg) (hx : a.eval x = .slice (some ⟨b, 0, none⟩) 1 c) (hp : SegAt w b p) (hL : L.length ≤ 3000000) (hbase : base ≤ w.heap.size)
    (h : ∀ v' w', OwnS w' base v' (L ++ [p]) → w.grownBy w' v.ownBlock → (∀ q, v.ownBlock = some q → base ≤ q) → wpList Try.prog ops Q rest (a.put o.dst v') w') :
    wpList Try.prog ops Q (o :: rest) a w := by
  obtain ⟨h1, h2, h3, h4, h5, h6, h7, h8⟩ := hp
  have hr : RdG 7 sgL w w.heap.size (some ⟨b, 0, none⟩) [p] := fun _ => ⟨b, 0, rfl, h8, fun j s hj i hi => by
    cases j with
    | succ j => simp at hj
    | zero =>
      simp only [List.getElem?_cons_zero, Option.some.injEq] at hj
      subst hj
      rw [Nat.zero_mul, Nat.zero_add]
      have hh : i = 0 ∨ i = 1 ∨ i = 2 ∨ i = 3 ∨ i = 4 ∨ i = 5 ∨ i = 6 := by omega
      rcases hh with rfl | rfl | rfl | rfl | rfl | rfl | rfl <;> assumption⟩
  exact wpList_append_g hgd s x 25 37 ho (by omega) sgL_len sgL_ones 56 Try.underlying25 infoSg base v L hs hown _ _ c [p] hx hr (by simp only [List.length_cons, List.length_nil]; omega) (by simp only [List.length_cons, List.length_nil, maxLen]; omega) hbase (fun v' w' h9 hg hb => h v' w' h9 hg (fun q hq => (hb q hq).1))
theorem cut_end (W : List Kt) (h : Int × Int) (L : List Sg) : cutR h L (W.drop W.length) = L := by rw [List.drop_length, cutR_nil]
set_option maxRecDepth 100000 in
theorem rf_segs_nil (A : Option Addr) (c : Nat) (X Y : Nat → Int) (O : Nat → Bool) (w : World) : Calls Try.prog 17 #[.slice A 0 c] w (SegsOut w (segsL 0 X Y O)) := by
  go_enter Try.func17, Try.ntmps17
  go_wp2
  go_ret
  exact ⟨_, _, rfl, Nat.le_refl _, OwnS.nil _ _, by (repeat (first | with_reducible (exact Since.refl _) | with_reducible assumption | with_reducible (refine Since.drew ?_) | with_reducible (refine Since.drewN ?_ _) | with_reducible (refine Since.alloc ?_ _) | (with_reducible (refine Since.setCell ?_ ?_ _); rotate_left; focus (first | (simp; done) | (simp; omega) | omega)) | (with_reducible (refine Since.trans ?_ (by with_reducible assumption)))))⟩
set_option maxRecDepth 100000 in
set_option maxHeartbeats 32000000 in
theorem rf_segs_pos (A : Option Addr) (n c : Nat) (X Y : Nat → Int) (O : Nat → Bool) (w : World) (h : RdK w w.heap.size A n X Y O) (hX : ∀ j, j < n → InP (X j) (Y j)) (hn0 : 0 < n) (hn : n ≤ 1000000) :
    Calls Try.prog 17 #[.slice A n c] w (SegsOut w (segsL n X Y O)) := by
  have hn1 : (0 : Int) < n := by omega
  obtain ⟨b, o, rfl, hb, hc⟩ := h hn0
  have hlen : decide ((n : Int) = 0) = false := by simp; omega
  have hlen2 : ((n : Int) == 0) = false := by simp; omega
  have hat := fun x y k w => rf_at x y k w
  unfold Kn Pt at hat
  have HC := Lib.hid hc
  have HX := Lib.hid hX
  have HP := Lib.hid hat
  have HF := Lib.hid (firstOn_is O n)
  clear hc hX hat h
  go_enter Try.func17, Try.ntmps17
  go_upto_block 0 with fail
  go_cut [3] (fun y wx => y = .int .i64 (firstOn O n : Int) ∧ Since w wx)
  case first =>
    go_wp2_with fail
    go_loopw [3] (fun y wr => ∃ j : Nat, j ≤ n ∧ y = .int .i64 (j : Int) ∧ Hid (∀ i, i < j → O i = false) ∧ Since w wr) (fun y _ => n - (intOf y).toNat)
    case atStart => exact ⟨0, by omega, rfl, Lib.hid (fun i hi => absurd hi (by omega)), Since.refl _⟩
    case round =>
      obtain ⟨j, hj, rfl, HA, hSr⟩ := hrel
      by_cases hjn : j < n
      · have hjn' : (j : Int) < n := by omega
        have c3 := (hSr.1 _ _ hb).trans (HC.out j hjn).2.2
        have hblt := hSr.2.2.1 _ hb
        cases ho : O j
        · rw [ho] at c3
          go_wp2_with fail
          go_roundw
          case rel => exact ⟨j + 1, by omega, by go_num, Lib.hid (fun i hi => by
            by_cases e : i = j
            · subst e; exact ho
            · exact HA.out i (by omega)), hSr⟩
          case measure => simp [intOf]; omega
        · rw [ho] at c3
          go_wp2_with fail
          go_meet
          exact ⟨by rw [firstOn_eq hjn HA.out ho], hSr⟩
      · obtain rfl : j = n := by omega
        go_wp2_with fail
        go_meet
        exact ⟨by rw [firstOn_none HA.out], hSr⟩
  obtain ⟨rfl, hS⟩ := hcut
  go_upto_if 33 with fail
  go_cut [3, 4] (fun y v wx => y = .int .i64 (frs n O : Int) ∧ OwnK wx w.heap.size v (wayStart n X Y O) ∧ Since w wx)
  case first =>
    by_cases hlt : firstOn O n < n
    · have e1 : (((firstOn O n : Nat) : Int) == (n : Int)) = false := by simp; omega
      have e2 : frs n O = firstOn O n := by unfold frs; rw [if_pos hlt]
      have e3 : wayStart n X Y O = [] := by unfold wayStart; rw [if_pos hlt]
      have HE2 := Lib.hid e2
      have HE3 := Lib.hid e3
      clear e2 e3
      go_wp2_with fail
      go_meet
      rw [HE2.out, HE3.out]
      exact ⟨rfl, OwnG.nil _ _ _ _ _, hS⟩
    · have e0 : firstOn O n = n := by have := (firstOn_is O n).1; omega
      have e2 : frs n O = 0 := by unfold frs; rw [if_neg hlt]
      have e3 : wayStart n X Y O = [⟨mid (X (n - 1)) (X 0), mid (Y (n - 1)) (Y 0), true⟩] := by unfold wayStart; rw [if_neg hlt]; rfl
      have e1 : (((firstOn O n : Nat) : Int) == (n : Int)) = true := by simp [e0]
      have HE2 := Lib.hid e2
      have HE3 := Lib.hid e3
      have hm := fun w => rf_mid (X (n - 1)) (Y (n - 1)) (X 0) (Y 0) (HX.out _ (by omega)) (HX.out _ hn0) w
      obtain ⟨x1, x2, x3⟩ := HC.out (n - 1) (by omega)
      obtain ⟨y1, y2, y3⟩ := HC.out 0 hn0
      have p1 := (hS.1 _ _ hb).trans x1
      have p2 := (hS.1 _ _ hb).trans x2
      have p3 := (hS.1 _ _ hb).trans x3
      have q1 := (hS.1 _ _ hb).trans y1
      have q2 := (hS.1 _ _ hb).trans y2
      have q3 := (hS.1 _ _ hb).trans y3
      simp only [Nat.zero_mul, Nat.add_zero] at q1 q2 q3
      have hb3 := hS.2.2.1 _ hb
      have k1 : IntKind.i64.wrap ((n : Int) - 1) = (n : Int) - 1 := IntWalk.i64_in _ (by omega)
      have k2 : (0 : Int) ≤ (n : Int) - 1 := by omega
      have k3 : ((n : Int) - 1).toNat = n - 1 := by omega
      have k4 : (n : Int) - 1 < (n : Int) := by omega
      have k5 : (1 : Int) ≤ (n : Int) := by omega
      unfold Pt at hm
      generalize mid (X (n - 1)) (X 0) = mx at *
      generalize mid (Y (n - 1)) (Y 0) = my at *
      generalize X (n - 1) = xl at *
      generalize Y (n - 1) = yl at *
      generalize O (n - 1) = ol at *
      generalize X 0 = x0 at *
      generalize Y 0 = y0 at *
      generalize O 0 = o0 at *
      have HM := Lib.hid hm
      clear hm x1 x2 x3 y1 y2 y3 e2 e3 HC HX HF e0 hlt
      go_upto_region 9 with fail
      refine wp_named fun wa hwa => ?_
      obtain rfl := hwa
      go_cut [5] (fun z wx => ∃ r : Nat, z = .pointer (some ⟨r, 0, none⟩) ∧ wa.heap.size ≤ r ∧ Since wa wx ∧ Row wx r 2 (Pf mx my))
      case first =>
        clear hS
        (refine wp_named fun wr7 hwr7 => ?_; go_region_held3 (fun w' => (∀ b o, b < wr7.heap.size → w'.cell? ⟨b, o, none⟩ = wr7.cell? ⟨b, o, none⟩) ∧ (∀ b o, b < wr7.heap.size → w'.frozen? ⟨b, o, none⟩ = wr7.frozen? ⟨b, o, none⟩) ∧ (∀ k, k < wr7.heap.size → k < w'.heap.size) ∧ Below wr7.heap.size wr7 w') ((subst hwr7; (repeat (with_reducible (refine since_put ?_ ?_ _); rotate_left; focus (first | (simp; done) | (simp; omega) | omega))); first | with_reducible assumption | (refine since_step (by with_reducible assumption) ?_; first | with_reducible assumption | ((repeat (first | with_reducible (exact Since.refl _) | with_reducible assumption | with_reducible (refine Since.drew ?_) | with_reducible (refine Since.drewN ?_ _) | with_reducible (refine Since.alloc ?_ _) | (with_reducible (refine Since.setCell ?_ ?_ _); rotate_left; focus (first | (simp; done) | (simp; omega) | omega)))); done)) | (refine since_step (Since.refl _) ?_; first | with_reducible assumption | ((repeat (first | with_reducible (exact Since.refl _) | with_reducible assumption | with_reducible (refine Since.drew ?_) | with_reducible (refine Since.drewN ?_ _) | with_reducible (refine Since.alloc ?_ _) | (with_reducible (refine Since.setCell ?_ ?_ _); rotate_left; focus (first | (simp; done) | (simp; omega) | omega)) | (with_reducible (refine Since.trans ?_ (by with_reducible assumption))))); done)))) (first | (go_at_call 49; (with_reducible refine (HP.out _ _ _ _).mono ?_); rintro e w8 ⟨rfl, hS8⟩; have hT8 := hS8; obtain ⟨hc8, hf8, hz8, hb8⟩ := hT8; have hZ8 := hS8.below.size; (try simp at hZ8); (try have hq8 := hz8 wa.heap.size (by first | with_reducible assumption | (simp; done) | (simp; omega)))) | (go_at_call 20; (with_reducible refine (HM.out _).mono ?_); rintro e w8 ⟨rfl, hS8⟩; have hT8 := hS8; obtain ⟨hc8, hf8, hz8, hb8⟩ := hT8; have hZ8 := hS8.below.size; (try simp at hZ8); (try have hq8 := hz8 wa.heap.size (by first | with_reducible assumption | (simp; done) | (simp; omega))))); all_goals (rename_i hHeld; have hR7 : Since wr7 _ := hHeld; obtain ⟨hcR7, hfR7, hzR7, hbR7⟩ := hHeld; subst hwr7))
        all_goals (go_wp2_with fail)
        all_goals go_meet
        all_goals refine ⟨_, rfl, ?_, ?_, ?_⟩
        any_goals ((show _ ≤ _); first | omega | (simp; omega))
        any_goals ((show Since _ _); (repeat (first | with_reducible (exact Since.refl _) | with_reducible assumption | with_reducible (refine Since.drew ?_) | with_reducible (refine Since.drewN ?_ _) | with_reducible (refine Since.alloc ?_ _) | (with_reducible (refine Since.setCell ?_ ?_ _); rotate_left; focus (first | (simp; done) | (simp; omega) | omega)) | (with_reducible (refine Since.trans ?_ (by with_reducible assumption))))); done)
        all_goals (repeat (first | with_reducible assumption | (with_reducible (refine prow _ _ ?_ _ mx my); focus (first | with_reducible rfl | (simp; done))) | (with_reducible (refine prow _ _ ?_ _ 0 0); focus (first | with_reducible rfl | (simp; done))) | with_reducible (refine pput0 ?_ mx my) | with_reducible (refine Row.drew ?_) | with_reducible (refine Row.alloc ?_ _) | with_reducible (refine Row.since ?_ (by with_reducible assumption))))
      obtain ⟨r, rfl, hr, hS1, rR⟩ := hcut
      have hS := hS.trans hS1
      obtain ⟨r1, r2, r3⟩ := pcells rR
      go_wp2_with (at_builtin; refine wpList_append_kn rfl _ _ rfl w.heap.size _ [] rfl (OwnG.nil _ _ _ _ _) _ _ 1 ⟨mx, my, true⟩ rfl (kn_one wc _ rfl _ ⟨mx, my, true⟩) (by simp) (by have := hS.below.size; simp; omega) ?_; intro v7 w7 hO8 hg7 hb7)
      go_meet
      rw [HE2.out, HE3.out]
      exact ⟨rfl, hO8, since_grown (hS.alloc _) hg7 (fun q hq => by cases hq)⟩
  obtain ⟨rfl, hO, hS⟩ := hcut
  have hfl := frs_lt (O := O) hn0
  have hcutW := way_cut n X Y O hn0
  have hwl := wayN_len (frs n O) n X Y O (wayStart n X Y O)
  have hsl : (wayStart n X Y O).length ≤ 1 := by unfold wayStart; split <;> simp
  have HCW := Lib.hid hcutW
  clear hcutW
  generalize frs n O = f at *
  go_upto_block 2 with fail
  go_cut [4] (fun v wx => OwnK wx w.heap.size v (wayN f n X Y O (wayStart n X Y O) n) ∧ Since w wx)
  case first =>
    go_wp2_with fail
    go_loopw [4, 6] (fun v y wr => ∃ i : Nat, i ≤ n ∧ y = .int .i64 (i : Int) ∧ OwnK wr w.heap.size v (wayN f n X Y O (wayStart n X Y O) i) ∧ Since w wr) (fun _ y _ => n - (intOf y).toNat)
    case atStart => exact ⟨0, by omega, rfl, hO, hS⟩
    case round =>
      obtain ⟨i, hi, rfl, hO, hS⟩ := hrel
      by_cases hin : i < n
      · have hin' : (i : Int) < n := by omega
        have hk : (f + i) % n < n := Nat.mod_lt _ hn0
        have u1 : IntKind.i64.wrap ((f : Int) + (i : Int)) = (f : Int) + (i : Int) := IntWalk.i64_in _ (by omega)
        have u3 : ((f : Int) + (i : Int)).tmod (n : Int) = (((f + i) % n : Nat) : Int) := by rw [Int.tmod_eq_emod_of_nonneg (by omega), Int.natCast_emod, Int.natCast_add]
        obtain ⟨x1, x2, x3⟩ := HC.out _ hk
        have hik := HX.out _ hk
        have hstep : wayN f n X Y O (wayStart n X Y O) (i + 1) = wayPre (wayN f n X Y O (wayStart n X Y O) i) (kAt X Y O ((f + i) % n)) ++ [kAt X Y O ((f + i) % n)] := by rw [← wayAdd_eq]; rfl
        have hwi := hwl i
        unfold kAt at hstep
        have HST := Lib.hid hstep
        clear hstep hwl
        generalize (f + i) % n = k at *
        generalize X k = xk at *
        generalize Y k = yk at *
        have k1 : wr.cell? ⟨b, o + k * 3, none⟩ = some (.int .i64 xk) := (hS.1 _ _ hb).trans x1
        have k2 : wr.cell? ⟨b, o + k * 3 + 1, none⟩ = some (.int .i64 yk) := (hS.1 _ _ hb).trans x2
        have k3 : wr.cell? ⟨b, o + k * 3 + 2, none⟩ = some (.bool (O k)) := (hS.1 _ _ hb).trans x3
        generalize O k = ok at *
        have hbw := hS.2.2.1 _ hb
        have hkI : (k : Int) < n := by omega
        have hnz : (n : Int) ≠ 0 := by omega
        clear x1 x2 x3
        have hWin := wayN_in (f := f) (O := O) hn0 HX.out i
        generalize wayN f n X Y O (wayStart n X Y O) i = W at *
        obtain ⟨A', c', rfl, hc', hr⟩ := hO.rd (by omega) knL_len
        have hob := fun (q : Nat) (hq : (Value.slice A' W.length c').ownBlock = some q) => (hO.lt hq).2
        go_upto_region 15 with fail
        refine wp_named fun w3 hw3 => ?_
        have rK : Row w3 wr.heap.size 3 (Kf xk yk ok) := by subst hw3; exact krow wr _ rfl _ _ _ _
        have hS3 : Since wr w3 := by subst hw3; (repeat (first | with_reducible (exact Since.refl _) | with_reducible assumption | with_reducible (refine Since.drew ?_) | with_reducible (refine Since.drewN ?_ _) | with_reducible (refine Since.alloc ?_ _) | (with_reducible (refine Since.setCell ?_ ?_ _); rotate_left; focus (first | (simp; done) | (simp; omega) | omega)) | (with_reducible (refine Since.trans ?_ (by with_reducible assumption)))))
        have hkb : w.heap.size ≤ wr.heap.size := hS.below.size
        clear hw3 k1 k2 k3 hbw u1 u3
        have hS := hS.trans hS3
        have hO := hO.since hS3
        have hr := hr.on hS3
        generalize wr.heap.size = kb at *
        obtain ⟨k1, k2, k3, k4⟩ := kcells rK
        clear hS3
        refine wp_named fun w4 hw4 => ?_
        obtain rfl := hw4
        go_cut [86] (fun z wx => z = .bool (lastOff W ⟨xk, yk, ok⟩) ∧ wx = w4)
        case first =>
          cases hg : W.getLast? with
          | none =>
            obtain rfl : W = [] := by simpa using hg
            have e0 : lastOff [] ⟨xk, yk, ok⟩ = false := rfl
            have E0 := Lib.hid e0
            clear e0
            cases ok
            all_goals (go_wp2_with fail)
            all_goals go_meet
            all_goals exact ⟨by rw [E0.out], rfl⟩
          | some l =>
            obtain ⟨hm, hget⟩ := last_get hg
            have e0 : lastOff W ⟨xk, yk, ok⟩ = (!ok && !l.o) := by unfold lastOff; rw [hg]
            have E0 := Lib.hid e0
            obtain ⟨g, go', rfl, hgb, hcell⟩ := hr hm
            have l3 := hcell _ _ hget 2 (by omega)
            simp only [knL, List.getD_cons_succ, List.getD_cons_zero] at l3
            generalize hmm : W.length = m at *
            have q1 : IntKind.i64.wrap ((m : Int) - 1) = (m : Int) - 1 := IntWalk.i64_in _ (by omega)
            have q2 : (0 : Int) ≤ (m : Int) - 1 := by omega
            have q3 : ((m : Int) - 1).toNat = m - 1 := by omega
            have q4 : (m : Int) - 1 < (m : Int) := by omega
            have q5 : (1 : Int) ≤ (m : Int) := by omega
            have q6 : decide ((0 : Int) < (m : Int)) = true := by simp; omega
            have q7 : (0 : Int) < (m : Int) := by omega
            generalize l.o = lo at *
            clear e0 hcell hget hg hr HC HX HF HST HCW
            cases ok <;> cases lo
            all_goals (go_wp2_with fail)
            all_goals go_meet
            all_goals exact ⟨by rw [E0.out]; rfl, rfl⟩
        obtain ⟨rfl, rfl⟩ := hcut
        go_upto_if 86 with fail
        go_cut [4] (fun v wx => OwnK wx w.heap.size v (wayPre W ⟨xk, yk, ok⟩) ∧ Since w wx ∧ Row wx kb 3 (Kf xk yk ok))
        case first =>
          cases hlo : lastOff W ⟨xk, yk, ok⟩
          · have hpre := wayPre_no hlo
            have HPR := Lib.hid hpre
            clear hpre
            go_wp2_with fail
            go_meet
            rw [HPR.out]
            exact ⟨hO, hS, rK⟩
          · obtain ⟨l, hg, hpre⟩ := wayPre_yes hlo
            obtain ⟨hm, hget⟩ := last_get hg
            have hli := hWin l (List.mem_of_getLast? hg)
            have hmd := fun w => rf_mid l.x l.y xk yk hli hik w
            have hpre : wayPre W ⟨xk, yk, ok⟩ = W ++ [⟨mid l.x xk, mid l.y yk, true⟩] := hpre
            unfold Pt at hmd
            have HPR := Lib.hid hpre
            obtain ⟨g, go', rfl, hgb, hcell⟩ := hr hm
            have l1 := hcell _ _ hget 0 (by omega)
            have l2 := hcell _ _ hget 1 (by omega)
            have l3 := hcell _ _ hget 2 (by omega)
            simp only [knL, List.getD_cons_succ, List.getD_cons_zero, Nat.add_zero] at l1 l2 l3
            generalize mid l.x xk = mx at *
            generalize mid l.y yk = my at *
            generalize l.x = lx at *
            generalize l.y = ly at *
            generalize l.o = lo at *
            have HM := Lib.hid hmd
            have q1 : IntKind.i64.wrap ((W.length : Int) - 1) = (W.length : Int) - 1 := IntWalk.i64_in _ (by omega)
            have q2 : (0 : Int) ≤ (W.length : Int) - 1 := by omega
            have q3 : ((W.length : Int) - 1).toNat = W.length - 1 := by omega
            have q4 : (W.length : Int) - 1 < (W.length : Int) := by omega
            have q5 : (1 : Int) ≤ (W.length : Int) := by omega
            clear hcell hget hg hr HC HX HF HST HCW hmd hpre hlo
            go_upto_region 16 with fail
            refine wp_named fun wa hwa => ?_
            obtain rfl := hwa
            go_cut [8] (fun z wx => ∃ r : Nat, z = .pointer (some ⟨r, 0, none⟩) ∧ wa.heap.size ≤ r ∧ Since wa wx ∧ Row wx r 2 (Pf mx my))
            case first =>
              clear hS hO rK HPR
              (refine wp_named fun wr7 hwr7 => ?_; go_region_held3 (fun w' => (∀ b o, b < wr7.heap.size → w'.cell? ⟨b, o, none⟩ = wr7.cell? ⟨b, o, none⟩) ∧ (∀ b o, b < wr7.heap.size → w'.frozen? ⟨b, o, none⟩ = wr7.frozen? ⟨b, o, none⟩) ∧ (∀ k, k < wr7.heap.size → k < w'.heap.size) ∧ Below wr7.heap.size wr7 w') ((subst hwr7; (repeat (with_reducible (refine since_put ?_ ?_ _); rotate_left; focus (first | (simp; done) | (simp; omega) | omega))); first | with_reducible assumption | (refine since_step (by with_reducible assumption) ?_; first | with_reducible assumption | ((repeat (first | with_reducible (exact Since.refl _) | with_reducible assumption | with_reducible (refine Since.drew ?_) | with_reducible (refine Since.drewN ?_ _) | with_reducible (refine Since.alloc ?_ _) | (with_reducible (refine Since.setCell ?_ ?_ _); rotate_left; focus (first | (simp; done) | (simp; omega) | omega)))); done)) | (refine since_step (Since.refl _) ?_; first | with_reducible assumption | ((repeat (first | with_reducible (exact Since.refl _) | with_reducible assumption | with_reducible (refine Since.drew ?_) | with_reducible (refine Since.drewN ?_ _) | with_reducible (refine Since.alloc ?_ _) | (with_reducible (refine Since.setCell ?_ ?_ _); rotate_left; focus (first | (simp; done) | (simp; omega) | omega)) | (with_reducible (refine Since.trans ?_ (by with_reducible assumption))))); done)))) (first | (go_at_call 49; (with_reducible refine (HP.out _ _ _ _).mono ?_); rintro e w8 ⟨rfl, hS8⟩; have hT8 := hS8; obtain ⟨hc8, hf8, hz8, hb8⟩ := hT8; have hZ8 := hS8.below.size; (try simp at hZ8); (try have hq8 := hz8 wa.heap.size (by first | with_reducible assumption | (simp; done) | (simp; omega)))) | (go_at_call 20; (with_reducible refine (HM.out _).mono ?_); rintro e w8 ⟨rfl, hS8⟩; have hT8 := hS8; obtain ⟨hc8, hf8, hz8, hb8⟩ := hT8; have hZ8 := hS8.below.size; (try simp at hZ8); (try have hq8 := hz8 wa.heap.size (by first | with_reducible assumption | (simp; done) | (simp; omega))))); all_goals (rename_i hHeld; have hR7 : Since wr7 _ := hHeld; obtain ⟨hcR7, hfR7, hzR7, hbR7⟩ := hHeld; subst hwr7))
              all_goals (go_wp2_with fail)
              all_goals go_meet
              all_goals refine ⟨_, rfl, ?_, ?_, ?_⟩
              any_goals ((show _ ≤ _); first | omega | (simp; omega))
              any_goals ((show Since _ _); (repeat (first | with_reducible (exact Since.refl _) | with_reducible assumption | with_reducible (refine Since.drew ?_) | with_reducible (refine Since.drewN ?_ _) | with_reducible (refine Since.alloc ?_ _) | (with_reducible (refine Since.setCell ?_ ?_ _); rotate_left; focus (first | (simp; done) | (simp; omega) | omega)) | (with_reducible (refine Since.trans ?_ (by with_reducible assumption))))); done)
              all_goals (repeat (first | with_reducible assumption | (with_reducible (refine prow _ _ ?_ _ mx my); focus (first | with_reducible rfl | (simp; done))) | (with_reducible (refine prow _ _ ?_ _ 0 0); focus (first | with_reducible rfl | (simp; done))) | with_reducible (refine pput0 ?_ mx my) | with_reducible (refine Row.drew ?_) | with_reducible (refine Row.alloc ?_ _) | with_reducible (refine Row.since ?_ (by with_reducible assumption))))
            obtain ⟨r, rfl, hr, hS1, rR⟩ := hcut
            have hS := hS.trans hS1
            have hO := hO.since hS1
            have rK := rK.since hS1
            clear hS1 k1 k2 k3 k4 l1 l2 l3 q1 q2 q3 q4 q5
            obtain ⟨r1, r2, r3⟩ := pcells rR
            go_wp2_with (at_builtin; refine wpList_append_kn rfl _ _ rfl w.heap.size _ _ rfl (hO.alloc _) _ _ 1 ⟨mx, my, true⟩ rfl (kn_one wc _ rfl _ ⟨mx, my, true⟩) (by omega) (by have := hS.below.size; simp; omega) ?_; intro v7 w7 hO8 hg7 hb7)
            go_meet
            rw [HPR.out]
            exact ⟨hO8, since_grown (hS.alloc _) hg7 (fun q hq => by have := (hb7 _ hq).1; omega), (rK.alloc _).grownB hg7 (fun e => by have := hob _ e; omega)⟩
        obtain ⟨hO, hS, rK⟩ := hcut
        clear k1 k2 k3 k4
        obtain ⟨k1, k2, k3, k4⟩ := kcells rK
        have hpl : (wayPre W ⟨xk, yk, ok⟩).length ≤ W.length + 1 := wayPre_len W _
        go_upto_region 13 with (at_builtin; refine wpList_append_kn rfl _ _ rfl w.heap.size _ _ rfl (hO.alloc _) _ _ 1 ⟨xk, yk, ok⟩ rfl (kn_one _ _ rfl _ ⟨xk, yk, ok⟩) (by omega) (by have := hS.below.size; simp; omega) ?_; intro v7 w7 hO8 hg7 hb7)
        have hSn : Since w w7 := since_grown (hS.alloc _) hg7 (fun q hq => by have := (hb7 _ hq).1; omega)
        go_wp2_with fail
        go_roundw
        case rel => exact ⟨i + 1, by omega, by go_num, by rw [HST.out]; exact hO8, hSn⟩
        case measure => simp [intOf]; omega
      · obtain rfl : i = n := by omega
        go_wp2_with fail
        go_meet
        exact ⟨hO, hS⟩
  obtain ⟨hO, hS⟩ := hcut
  obtain ⟨⟨wx0, wy0, wo0⟩, r0, hW, hw0, hcu⟩ := HCW.out
  obtain rfl : wo0 = true := hw0
  have hlenW := hwl n
  rw [hW] at hlenW hO
  have hlr : r0.length + 1 ≤ 1 + 2 * n := by simp only [List.length_cons] at hlenW; omega
  obtain ⟨A', c', rfl, hc', hr⟩ := hO.rd (by omega) knL_len
  have hob := fun (q : Nat) (hq : (Value.slice A' ((Kt.mk wx0 wy0 true) :: r0).length c').ownBlock = some q) => (hO.lt hq).2
  obtain ⟨g, go', rfl, hgb, hcell⟩ := hr (by simp)
  have l1 := hcell 0 (Kt.mk wx0 wy0 true) rfl 0 (by omega)
  have l2 := hcell 0 (Kt.mk wx0 wy0 true) rfl 1 (by omega)
  have l3 := hcell 0 (Kt.mk wx0 wy0 true) rfl 2 (by omega)
  simp only [knL, List.getD_cons_succ, List.getD_cons_zero, Nat.add_zero, Nat.zero_mul] at l1 l2 l3
  have hlen0 : (0 : Int) < ((((Kt.mk wx0 wy0 true) :: r0).length : Nat) : Int) := by simp
  have HCU := Lib.hid hcu
  have hl3 : ((Kt.mk wx0 wy0 true) :: r0).length ≤ 3000000 := by simp; omega
  clear hr hcell hcu hlenW
  generalize hw1 : (Kt.mk wx0 wy0 true) :: r0 = W0 at *
  go_upto_region 20 with (at_builtin; refine wpList_append_kn rfl _ _ rfl w.heap.size _ _ rfl (hO.alloc _) _ _ 1 (Kt.mk wx0 wy0 true) rfl (kn_one _ _ rfl _ (Kt.mk wx0 wy0 true)) (by omega) (by have := hS.below.size; simp; omega) ?_; intro v7 w7 hO8 hg7 hb7)
  have hSn : Since w w7 := since_grown (hS.alloc _) hg7 (fun q hq => by have := (hb7 _ hq).1; omega)
  generalize hw2 : W0 ++ [(Kt.mk wx0 wy0 true)] = W at *
  obtain ⟨A7, c7, rfl, hc7, hr7⟩ := hO8.rd (by omega) knL_len
  have hW0 : W[0]? = some (Kt.mk wx0 wy0 true) := by rw [← hw2, ← hw1]; rfl
  have hWl : W.getLast? = some (Kt.mk wx0 wy0 true) := by rw [← hw2]; exact last_snoc _ _
  have hWn : 0 < W.length := by rw [← hw2, List.length_append]; simp
  have hWm : W.length ≤ 3000000 := by rw [← hw2, List.length_append, ← hw1]; simp; omega
  have hWd : cutR (wx0, wy0) [] (W.drop 1) = segsL n X Y O := by rw [← HCU.out, ← hw2, ← hw1]; rfl
  have HWD := Lib.hid hWd
  clear hWd hw1 hw2 hO hS l1 l2 l3 hlen0 hob hlr hl3 hO8 hg7 hb7 hc'
  obtain ⟨g7, o7, rfl, hg7, hcell⟩ := hr7 hWn
  have l1 := hcell 0 (Kt.mk wx0 wy0 true) hW0 0 (by omega)
  have l2 := hcell 0 (Kt.mk wx0 wy0 true) hW0 1 (by omega)
  have l3 := hcell 0 (Kt.mk wx0 wy0 true) hW0 2 (by omega)
  simp only [knL, List.getD_cons_succ, List.getD_cons_zero, Nat.add_zero, Nat.zero_mul] at l1 l2 l3
  have hWnI : (0 : Int) < (W.length : Int) := by omega
  go_upto_region 22 with (go_at_call 49; (with_reducible refine (HP.out _ _ _ _).mono ?_); rintro e w8 ⟨rfl, hS8⟩)
  refine wp_named fun w9 hw9 => ?_
  have rH : Row w9 w8.heap.size 2 (Pf wx0 wy0) := by subst hw9; exact prow w8 _ rfl _ _ _
  have hS9 : Since w8 w9 := by subst hw9; (repeat (first | with_reducible (exact Since.refl _) | with_reducible assumption | with_reducible (refine Since.drew ?_) | with_reducible (refine Since.drewN ?_ _) | with_reducible (refine Since.alloc ?_ _) | (with_reducible (refine Since.setCell ?_ ?_ _); rotate_left; focus (first | (simp; done) | (simp; omega) | omega)) | (with_reducible (refine Since.trans ?_ (by with_reducible assumption)))))
  have hS := hSn.trans hS8
  have hbf := hS8.below.size
  have HC7 := Lib.hid (fun (j : Nat) (k : Kt) (hj : W[j]? = some k) (w' : World) (hs : Since w8 w') => (show w'.cell? ⟨g7, o7 + j * 3, none⟩ = some (.int .i64 k.x) ∧ w'.cell? ⟨g7, o7 + j * 3 + 1, none⟩ = some (.int .i64 k.y) ∧ w'.cell? ⟨g7, o7 + j * 3 + 2, none⟩ = some (.bool k.o) ∧ g7 < w'.heap.size from
    ⟨((hS8.trans hs).1 _ _ hg7).trans (hcell j k hj 0 (by omega)), ((hS8.trans hs).1 _ _ hg7).trans (hcell j k hj 1 (by omega)), ((hS8.trans hs).1 _ _ hg7).trans (hcell j k hj 2 (by omega)), (hS8.trans hs).2.2.1 _ hg7⟩))
  clear hw9 l1 l2 l3 hr7 hcell hSn
  have hww : w.heap.size ≤ w8.heap.size := hS.below.size
  obtain ⟨bf, hbfe⟩ : ∃ bf, bf = w8.heap.size := ⟨_, rfl⟩
  have hbf2 : w8.heap.size ≤ bf := by omega
  rw [← hbfe] at rH hww hbf ⊢
  clear hbfe
  go_upto_block 4 with fail
  go_cut [9] (fun v wx => OwnS wx (bf + 1) v (segsL n X Y O) ∧ Since w8 wx)
  case first =>
    go_wp2_with fail
    go_loopw [9, 11] (fun v y wr => ∃ (i : Nat) (h : Int × Int) (L : List Sg), i ≤ W.length ∧ 1 ≤ i ∧ y = .int .i64 (i : Int) ∧ OwnS wr (bf + 1) v L ∧ Row wr bf 2 (Pf h.1 h.2) ∧ Since w8 wr ∧ L.length ≤ i ∧ cutR h L (W.drop i) = segsL n X Y O) (fun _ y _ => W.length - (intOf y).toNat)
    case atStart => exact ⟨1, (wx0, wy0), [], by omega, by omega, rfl, OwnS.nil _ _, rH, hS9, by simp, HWD.out⟩
    case round =>
      obtain ⟨i, ⟨hx, hy⟩, L, hi, hi1, rfl, hO, rH, hSr, hL, hcR⟩ := hrel
      by_cases hin : i < W.length
      · have hin' : (i : Int) < (W.length : Int) := by omega
        obtain ⟨k, hk⟩ : ∃ k, W[i]? = some k := ⟨_, List.getElem?_eq_getElem hin⟩
        obtain ⟨j, cx, cy, cur, k2, hj, hk2, hstep, hcase⟩ := cut_step (w0 := Kt.mk wx0 wy0 true) rfl hWl hk (hx, hy) L
        rw [hcR] at hstep
        have HSTEP := Lib.hid hstep
        clear hstep hcR
        obtain ⟨h1, h2, h3⟩ := pcells rH
        go_upto_region 26 with fail
        refine wp_named fun w3 hw3 => ?_
        have rS : Row w3 wr.heap.size 7 (Sf ⟨hx, hy, 0, 0, 0, 0, false⟩) := by subst hw3; exact srow wr _ rfl _ ⟨hx, hy, 0, 0, 0, 0, false⟩
        have hS3 : Since wr w3 := by subst hw3; (repeat (first | with_reducible (exact Since.refl _) | with_reducible assumption | with_reducible (refine Since.drew ?_) | with_reducible (refine Since.drewN ?_ _) | with_reducible (refine Since.alloc ?_ _) | (with_reducible (refine Since.setCell ?_ ?_ _); rotate_left; focus (first | (simp; done) | (simp; omega) | omega)) | (with_reducible (refine Since.trans ?_ (by with_reducible assumption)))))
        have hlt : bf < wr.heap.size := rH.2.2
        clear hw3 h1 h2 h3
        have hz3 := hS3.below.size
        obtain ⟨r, hrr⟩ : ∃ r, r = wr.heap.size := ⟨_, rfl⟩
        have hrr2 : wr.heap.size ≤ r := by omega
        have hij : i ≤ j := by rcases hcase with ⟨_, e, _⟩ | ⟨_, e, _⟩ <;> omega
        rw [← hrr] at rS hlt hz3 ⊢
        clear hrr
        have hne : bf ≠ r := by omega
        go_upto_region 26 with fail
        obtain ⟨s1, s2, s3, s4, s5, s6, s7, s8⟩ := scells rS
        simp only at s1 s2 s3 s4 s5 s6 s7
        obtain ⟨c1, c2, c3, c4⟩ := HC7.out i k hk w3 (hSr.trans hS3)
        go_upto_if 132 with fail
        go_cut [11] (fun y wx => y = .int .i64 (j : Int) ∧ Since wr wx ∧ Row wx r 7 (Sf ⟨hx, hy, cx, cy, 0, 0, cur⟩))
        case first =>
          rcases hcase with ⟨ho, rfl, rfl, rfl, rfl⟩ | ⟨ho, rfl, rfl, rfl, rfl⟩
          · rw [ho] at c3 ⊢
            go_wp2_with fail
            go_meet
            exact ⟨rfl, hS3, rS⟩
          · rw [ho] at c3 ⊢
            obtain ⟨kx, ky, ko⟩ := k
            simp only at c1 c2 c3 ho
            clear ho hk
            go_wp2_with (go_at_call 49; (with_reducible refine (HP.out _ _ _ _).mono ?_); rintro e w5 ⟨rfl, hS5⟩; have rS5 := rS.since hS5; clear s1 s2 s3 s4 s5 s6 s7 s8; obtain ⟨s1, s2, s3, s4, s5, s6, s7, s8⟩ := scells rS5; (simp only at s1 s2 s3 s4 s5 s6 s7); have y2 := rS5.2.1 2; have y3 := rS5.2.1 3; have y6 := rS5.2.1 6)
            go_meet
            exact ⟨by go_num, (((hS3.trans hS5).setCell hrr2 _).setCell hrr2 _).setCell hrr2 _, sput6 (sput2 rS5 _ _) _⟩
        obtain ⟨rfl, hWr, rS⟩ := hcut
        clear s1 s2 s3 s4 s5 s6 s7 s8 c1 c2 c3 c4 hcase hS3 hz3
        obtain ⟨s1, s2, s3, s4, s5, s6, s7, s8⟩ := scells rS
        simp only at s1 s2 s3 s4 s5 s6 s7
        obtain ⟨c1, c2, c3, c4⟩ := HC7.out j k2 hk2 wc (hSr.trans hWr)
        obtain ⟨bx, bz, k2o⟩ := k2
        simp only at c1 c2 c3
        have hjI : (j : Int) < (W.length : Int) := by omega
        go_upto_region 30 with (go_at_call 49; (with_reducible refine (HP.out _ _ _ _).mono ?_); rintro e w5 ⟨rfl, hS5⟩; have rS5 := rS.since hS5; clear s1 s2 s3 s4 s5 s6 s7 s8; obtain ⟨s1, s2, s3, s4, s5, s6, s7, s8⟩ := scells rS5; (simp only at s1 s2 s3 s4 s5 s6 s7); have y4 := rS5.2.1 4; have y5 := rS5.2.1 5)
        refine wp_named fun wz hwz => ?_
        have hWz : Since wr wz := by subst hwz; exact ((hWr.trans hS5).setCell hrr2 _).setCell hrr2 _
        have rS6 : Row wz r 7 (Sf ⟨hx, hy, cx, cy, bx, bz, cur⟩) := by subst hwz; exact sput4 rS5 bx bz
        clear hwz s1 s2 s3 s4 s5 s6 s7 s8 y4 y5 c1 c2 c3 c4 rS rS5
        have rH6 := rH.since hWz
        have hO6 := hO.since hWz
        have hS6 := hSr.trans hWz
        obtain ⟨s1, s2, s3, s4, s5, s6, s7, s8⟩ := scells rS6
        simp only at s1 s2 s3 s4 s5 s6 s7
        obtain ⟨h1, h2, h3⟩ := pcells rH6
        have z0 := rH6.2.1 0
        have z1 := rH6.2.1 1
        go_upto_region 31 with fail
        refine wp_named fun wb hwb => ?_
        have hT7 : Since w8 wb := by subst hwb; exact (hS6.setCell hbf2 _).setCell hbf2 _
        have hO7 := (show OwnS wb (bf + 1) _ L by subst hwb; exact hO6.far (by omega) 0 1 (.int .i64 bx) (.int .i64 bz))
        have rH7 : Row wb bf 2 (Pf bx bz) := by subst hwb; exact pput rH6 bx bz
        have rS7 : Row wb r 7 (Sf ⟨hx, hy, cx, cy, bx, bz, cur⟩) := by subst hwb; exact (rS6.far hne 0 _).far hne 1 _
        clear hwb s1 s2 s3 s4 s5 s6 s7 s8 h1 h2 h3 z0 z1 rS6 rH6 hO6 hS6 hWz hWr hSr hS5 rH hO
        obtain ⟨s1, s2, s3, s4, s5, s6, s7, s8⟩ := scells rS7
        simp only at s1 s2 s3 s4 s5 s6 s7
        have hbase : bf + 1 ≤ wb.heap.size := rH7.2.2
        by_cases e1 : hx = bx
        · by_cases e2 : hy = bz
          · subst e1 e2
            cases cur
            · have hE : (!(hx == hx && hy == hy) || (false && !(cx == hx && cy == hy))) = false := by simp
              have HE := Lib.hid hE
              clear hE
              go_wp2_with fail
              go_roundw
              case rel =>
                refine ⟨j + 1, (hx, hy), L, by omega, by omega, by go_num, hO7, rH7, hT7, by omega, ?_⟩
                rw [HSTEP.out]; unfold addS sgOk; simp only [HE.out, if_false, Bool.false_eq_true]
              case measure => simp [intOf]; omega
            · by_cases e4 : hx = cx
              · by_cases e5 : hy = cy
                · subst e4 e5
                  have hE : (!(hx == hx && hy == hy) || (true && !(hx == hx && hy == hy))) = false := by simp
                  have HE := Lib.hid hE
                  clear hE
                  go_wp2_with fail
                  go_roundw
                  case rel =>
                    refine ⟨j + 1, (hx, hy), L, by omega, by omega, by go_num, hO7, rH7, hT7, by omega, ?_⟩
                    rw [HSTEP.out]; unfold addS sgOk; simp only [HE.out, if_false, Bool.false_eq_true]
                  case measure => simp [intOf]; omega
                · subst e4
                  have e6 : (cy == hy) = false := by simp; omega
                  have hE : (!(hx == hx && hy == hy) || (true && !(hx == hx && cy == hy))) = true := by simp [e6]
                  have HE := Lib.hid hE
                  clear hE e5
                  go_wp2_with (at_builtin; refine wpList_append_sg rfl _ _ rfl (bf + 1) _ L rfl (OwnS.alloc hO7 _) _ 1 ⟨hx, hy, hx, cy, hx, hy, true⟩ rfl (seg_new wb _ rfl ⟨hx, hy, hx, cy, hx, hy, true⟩ _) (by omega) (by simp; omega) ?_; intro v7 w7 hO8 hg7 hb7)
                  go_roundw
                  case rel =>
                    refine ⟨j + 1, (hx, hy), L ++ [⟨hx, hy, hx, cy, hx, hy, true⟩], by omega, by omega, by go_num, hO8, ?_, ?_, by rw [List.length_append]; simp; omega, ?_⟩
                    · exact (rH7.alloc _).grownB hg7 (fun e => by have := hb7 _ e; omega)
                    · exact since_grown (hT7.alloc _) hg7 (fun q hq => by have := hb7 _ hq; omega)
                    · rw [HSTEP.out]; unfold addS sgOk; simp only [HE.out, if_true]
                  case measure => simp [intOf]; omega
              · have e6 : (cx == hx) = false := by simp; omega
                have hE : (!(hx == hx && hy == hy) || (true && !(cx == hx && cy == hy))) = true := by simp [e6]
                have HE := Lib.hid hE
                clear hE e4
                go_wp2_with (at_builtin; refine wpList_append_sg rfl _ _ rfl (bf + 1) _ L rfl (OwnS.alloc hO7 _) _ 1 ⟨hx, hy, cx, cy, hx, hy, true⟩ rfl (seg_new wb _ rfl ⟨hx, hy, cx, cy, hx, hy, true⟩ _) (by omega) (by simp; omega) ?_; intro v7 w7 hO8 hg7 hb7)
                go_roundw
                case rel =>
                  refine ⟨j + 1, (hx, hy), L ++ [⟨hx, hy, cx, cy, hx, hy, true⟩], by omega, by omega, by go_num, hO8, ?_, ?_, by rw [List.length_append]; simp; omega, ?_⟩
                  · exact (rH7.alloc _).grownB hg7 (fun e => by have := hb7 _ e; omega)
                  · exact since_grown (hT7.alloc _) hg7 (fun q hq => by have := hb7 _ hq; omega)
                  · rw [HSTEP.out]; unfold addS sgOk; simp only [HE.out, if_true]
                case measure => simp [intOf]; omega
          · subst e1
            have e3 : (hy == bz) = false := by simp [e2]
            have hE : (!(hx == hx && hy == bz) || (cur && !(cx == hx && cy == hy))) = true := by simp [e3]
            have HE := Lib.hid hE
            clear hE
            go_wp2_with (at_builtin; refine wpList_append_sg rfl _ _ rfl (bf + 1) _ L rfl (OwnS.alloc hO7 _) _ 1 ⟨hx, hy, cx, cy, hx, bz, cur⟩ rfl (seg_new wb _ rfl ⟨hx, hy, cx, cy, hx, bz, cur⟩ _) (by omega) (by simp; omega) ?_; intro v7 w7 hO8 hg7 hb7)
            go_roundw
            case rel =>
              refine ⟨j + 1, (hx, bz), L ++ [⟨hx, hy, cx, cy, hx, bz, cur⟩], by omega, by omega, by go_num, hO8, ?_, ?_, by rw [List.length_append]; simp; omega, ?_⟩
              · exact (rH7.alloc _).grownB hg7 (fun e => by have := hb7 _ e; omega)
              · exact since_grown (hT7.alloc _) hg7 (fun q hq => by have := hb7 _ hq; omega)
              · rw [HSTEP.out]; unfold addS sgOk; simp only [HE.out, if_true]
            case measure => simp [intOf]; omega
        · have e3 : (hx == bx) = false := by simp [e1]
          have hE : (!(hx == bx && hy == bz) || (cur && !(cx == hx && cy == hy))) = true := by simp [e3]
          have HE := Lib.hid hE
          clear hE
          go_wp2_with (at_builtin; refine wpList_append_sg rfl _ _ rfl (bf + 1) _ L rfl (OwnS.alloc hO7 _) _ 1 ⟨hx, hy, cx, cy, bx, bz, cur⟩ rfl (seg_new wb _ rfl ⟨hx, hy, cx, cy, bx, bz, cur⟩ _) (by omega) (by simp; omega) ?_; intro v7 w7 hO8 hg7 hb7)
          go_roundw
          case rel =>
            refine ⟨j + 1, (bx, bz), L ++ [⟨hx, hy, cx, cy, bx, bz, cur⟩], by omega, by omega, by go_num, hO8, ?_, ?_, by rw [List.length_append]; simp; omega, ?_⟩
            · exact (rH7.alloc _).grownB hg7 (fun e => by have := hb7 _ e; omega)
            · exact since_grown (hT7.alloc _) hg7 (fun q hq => by have := hb7 _ hq; omega)
            · rw [HSTEP.out]; unfold addS sgOk; simp only [HE.out, if_true]
          case measure => simp [intOf]; omega
      · obtain rfl : i = W.length := by omega
        rw [cut_end] at hcR
        subst hcR
        go_wp2_with fail
        go_meet
        exact ⟨hO, hSr⟩
  obtain ⟨hO, hSx⟩ := hcut
  go_wp2_with fail
  go_ret
  exact ⟨_, bf + 1, rfl, by omega, hO, hS.trans hSx⟩
theorem rf_segs_rd (A : Option Addr) (n c : Nat) (X Y : Nat → Int) (O : Nat → Bool) (w : World) (h : RdK w w.heap.size A n X Y O) (hX : ∀ j, j < n → InP (X j) (Y j)) (hn : n ≤ 1000000) :
    Calls Try.prog 17 #[.slice A n c] w fun e w' => ∃ A' c', e = .returned (.slice A' (segsL n X Y O).length c') ∧ RdS w' w'.heap.size A' (segsL n X Y O) ∧ Since w w' := by
  have hh : Calls Try.prog 17 #[.slice A n c] w (SegsOut w (segsL n X Y O)) := by
    rcases Nat.eq_zero_or_pos n with rfl | hn0
    · exact rf_segs_nil A c X Y O w
    · exact rf_segs_pos A n c X Y O w h hX hn0 hn
  refine hh.mono ?_
  rintro e w' ⟨v, base, rfl, hb, hO, hS⟩
  obtain ⟨A', c', rfl, hc, hr, _⟩ := hO.rd
  exact ⟨A', c', rfl, hr, hS⟩
end Go.Proofs.Ytdbenpncnkfliaa

/-
  Layer 15: lines in memory; 'between', 'apart', 'vector', 'product', 'On', walked.
-/
namespace Go.Proofs.Ytdbenpncnkfliaa
open Go.RowKit
set_option linter.unusedVariables false

/-- A line's numbers. -/
structure Ln where
  (ax ay bx bz : Int)
def Ln.v (l : Ln) : Value := .agg #[.int .i64 l.ax, .int .i64 l.ay, .int .i64 l.bx, .int .i64 l.bz]
def Ln.wf (l : Ln) : Prop := InP l.ax l.ay ∧ InP l.bx l.bz
def LnAt (w : World) (b : Nat) (l : Ln) : Prop := w.cell? ⟨b, 0, none⟩ = some (.int .i64 l.ax) ∧ w.cell? ⟨b, 1, none⟩ = some (.int .i64 l.ay) ∧ w.cell? ⟨b, 2, none⟩ = some (.int .i64 l.bx) ∧ w.cell? ⟨b, 3, none⟩ = some (.int .i64 l.bz) ∧ b < w.heap.size
section
variable {w w' : World} {b : Nat} {l : Ln}
theorem LnAt.since (h : LnAt w b l) (k : Since w w') : LnAt w' b l := by
  obtain ⟨h1, h2, h3, h4, h5⟩ := h
  exact ⟨(k.1 _ _ h5).trans h1, (k.1 _ _ h5).trans h2, (k.1 _ _ h5).trans h3, (k.1 _ _ h5).trans h4, k.2.2.1 _ h5⟩
theorem LnAt.alloc (h : LnAt w b l) (o : Obj) : LnAt (w.alloc o) b l := h.since ((Since.refl w).alloc o)
theorem LnAt.drew (h : LnAt w b l) : LnAt w.drew b l := h
theorem ln_new (w : World) (b : Nat) (hb : b = w.heap.size) (l : Ln) (t : TypeId) : LnAt (w.alloc (.cells #[.int .i64 l.ax, .int .i64 l.ay, .int .i64 l.bx, .int .i64 l.bz] t)) b l := by
  subst hb
  refine ⟨?_, ?_, ?_, ?_, by simp⟩ <;> (rw [World.cell?_alloc_new]; rfl)
end
def lo2 (a b : Int) : Int := if b < a then b else a
def hi2 (a b : Int) : Int := if a < b then b else a
def btw (a n b : Int) : Bool := decide (lo2 a b ≤ n) && decide (n ≤ hi2 a b)
def aprt (a b c d : Int) : Bool := decide (hi2 a b < lo2 c d) || decide (hi2 c d < lo2 a b)
theorem min2_run : ∀ (A B : Int) (w : World), (Builtin.min_ #[3, 3] 3 #[.int .i64 A, .int .i64 B]).run Try.prog w = .ok (.int .i64 (lo2 A B)) w := fun _ _ _ => rfl
theorem max2_run : ∀ (A B : Int) (w : World), (Builtin.max_ #[3, 3] 3 #[.int .i64 A, .int .i64 B]).run Try.prog w = .ok (.int .i64 (hi2 A B)) w := fun _ _ _ => rfl
end Go.Proofs.Ytdbenpncnkfliaa

/-
  Layer 11: the document's examples; the law OutlineMids, walked.
-/
namespace Go.Proofs.Ytdbenpncnkfliaa
open Go.RowKit Go.ChangeShapes Go.WideShapes Go.Deep
set_option linter.unusedVariables false

theorem al_seg1 (w : World) (b : Nat) (hb : b = w.heap.size) (t : TypeId) : Calls Try.prog 15 #[.slice (some ⟨b, 0, none⟩) 3 3] (w.alloc (.cells #[.int .i64 0, .int .i64 0, .bool true, .int .i64 4, .int .i64 0, .bool false, .int .i64 4, .int .i64 4, .bool true] t)) fun e w' => ∃ A c, e = .returned (.slice A 2 c) ∧ RdS w' w'.heap.size A [⟨0, 0, 4, 0, 4, 4, true⟩, ⟨4, 4, 0, 0, 0, 0, false⟩] ∧ Since (w.alloc (.cells #[.int .i64 0, .int .i64 0, .bool true, .int .i64 4, .int .i64 0, .bool false, .int .i64 4, .int .i64 4, .bool true] t)) w' := by
  have h := ou_segs_rd _ 3 3 (nthI [0, 4, 4]) (nthI [0, 0, 4]) (nthB [true, false, true]) _ (rdK_lit w b hb t #[.int .i64 0, .int .i64 0, .bool true, .int .i64 4, .int .i64 0, .bool false, .int .i64 4, .int .i64 4, .bool true] 3 (nthI [0, 4, 4]) (nthI [0, 0, 4]) (nthB [true, false, true]) (fun j hj => by
    have hh : j = 0 ∨ j = 1 ∨ j = 2 := by omega
    rcases hh with rfl | rfl | rfl <;> exact ⟨rfl, rfl, rfl⟩)) (fun j _ => inP_lit (by decide) (by decide) j) (by omega)
  have e : segsL 3 (nthI [0, 4, 4]) (nthI [0, 0, 4]) (nthB [true, false, true]) = [⟨0, 0, 4, 0, 4, 4, true⟩, ⟨4, 4, 0, 0, 0, 0, false⟩] := by kernel_rfl
  rw [e] at h
  exact h
theorem al_seg2 (w : World) (b : Nat) (hb : b = w.heap.size) (t : TypeId) : Calls Try.prog 15 #[.slice (some ⟨b, 0, none⟩) 4 4] (w.alloc (.cells #[.int .i64 0, .int .i64 0, .bool false, .int .i64 4, .int .i64 0, .bool false, .int .i64 4, .int .i64 4, .bool false, .int .i64 0, .int .i64 4, .bool false] t)) fun e w' => ∃ b' o c, e = .returned (.slice (some ⟨b', o, none⟩) 4 c) ∧ (b' < w'.heap.size ∧ w'.cell? ⟨b', o, none⟩ = some (.int .i64 0) ∧ w'.cell? ⟨b', o + 1, none⟩ = some (.int .i64 2) ∧ w'.cell? ⟨b', o + 2, none⟩ = some (.int .i64 0) ∧ w'.cell? ⟨b', o + 3, none⟩ = some (.int .i64 0) ∧ w'.cell? ⟨b', o + 4, none⟩ = some (.int .i64 2) ∧ w'.cell? ⟨b', o + 5, none⟩ = some (.int .i64 0) ∧ w'.cell? ⟨b', o + 6, none⟩ = some (.bool true)) ∧ Since (w.alloc (.cells #[.int .i64 0, .int .i64 0, .bool false, .int .i64 4, .int .i64 0, .bool false, .int .i64 4, .int .i64 4, .bool false, .int .i64 0, .int .i64 4, .bool false] t)) w' := by
  have h := ou_segs_rd _ 4 4 (nthI [0, 4, 4, 0]) (nthI [0, 0, 4, 4]) (nthB []) _ (rdK_lit w b hb t #[.int .i64 0, .int .i64 0, .bool false, .int .i64 4, .int .i64 0, .bool false, .int .i64 4, .int .i64 4, .bool false, .int .i64 0, .int .i64 4, .bool false] 4 (nthI [0, 4, 4, 0]) (nthI [0, 0, 4, 4]) (nthB []) (fun j hj => by
    have hh : j = 0 ∨ j = 1 ∨ j = 2 ∨ j = 3 := by omega
    rcases hh with rfl | rfl | rfl | rfl <;> exact ⟨rfl, rfl, rfl⟩)) (fun j _ => inP_lit (by decide) (by decide) j) (by omega)
  have e : segsL 4 (nthI [0, 4, 4, 0]) (nthI [0, 0, 4, 4]) (nthB []) = [⟨0, 2, 0, 0, 2, 0, true⟩, ⟨2, 0, 4, 0, 4, 2, true⟩, ⟨4, 2, 4, 4, 2, 4, true⟩, ⟨2, 4, 0, 4, 0, 2, true⟩] := by kernel_rfl
  rw [e] at h
  refine h.mono ?_
  rintro e w' ⟨A, c, rfl, hr, hS⟩
  obtain ⟨b', o, rfl, hb', hc⟩ := hr (by simp)
  obtain ⟨h1, h2, h3, h4, h5, h6, h7⟩ := hc 0 _ rfl
  exact ⟨b', o, c, rfl, ⟨hb', h1, h2, h3, h4, h5, h6, h7⟩, hS⟩
theorem al_seg3 (w : World) (b : Nat) (hb : b = w.heap.size) (t : TypeId) : Calls Try.prog 15 #[.slice (some ⟨b, 0, none⟩) 1 1] (w.alloc (.cells #[.int .i64 9, .int .i64 0, .bool false] t)) fun e w' => ∃ A c, e = .returned (.slice A 0 c) ∧ Since (w.alloc (.cells #[.int .i64 9, .int .i64 0, .bool false] t)) w' := by
  have h := ou_segs_rd _ 1 1 (nthI [9]) (nthI [0]) (nthB []) _ (rdK_lit w b hb t #[.int .i64 9, .int .i64 0, .bool false] 1 (nthI [9]) (nthI [0]) (nthB []) (fun j hj => by
    obtain rfl : j = 0 := by omega
    exact ⟨rfl, rfl, rfl⟩)) (fun j _ => inP_lit (by decide) (by decide) j) (by omega)
  have e : segsL 1 (nthI [9]) (nthI [0]) (nthB []) = [] := by kernel_rfl
  rw [e] at h
  refine h.mono ?_
  rintro e w' ⟨A, c, rfl, hr, hS⟩
  exact ⟨A, c, rfl, hS⟩
theorem al_mid (w : World) : Calls Try.prog 19 #[.agg #[.int .i64 0, .int .i64 0], .agg #[.int .i64 (-3), .int .i64 5]] w fun e w' => e = .returned (.agg #[.int .i64 (-2), .int .i64 2]) ∧ Since w w' := by
  have h := ou_mid 0 0 (-3) 5 (inP_small (by omega) (by omega)) (inP_small (by omega) (by omega)) w
  have e1 : mid 0 (-3) = -2 := by decide
  have e2 : mid 0 5 = 2 := by decide
  rw [e1, e2] at h
  exact h
set_option maxRecDepth 100000 in
set_option maxHeartbeats 8000000 in
theorem alive11 (w : World) : Calls Try.prog 14 #[] w fun e w' => e = .returned (.bool true) ∧ Since w w' := by
  go_enter Try.func14, Try.ntmps14
  go_wp2_with (first | (go_at_call 15; (with_reducible refine (al_seg1 _ _ (by simp) _).mono ?_); rintro e w1 ⟨A1, c1, rfl, hR1, hS1⟩; have hT1 : Since w w1 := (by (repeat (first | with_reducible (exact Since.refl _) | with_reducible assumption | with_reducible (refine Since.drew ?_) | with_reducible (refine Since.drewN ?_ _) | with_reducible (refine Since.alloc ?_ _) | (with_reducible (refine Since.setCell ?_ ?_ _); rotate_left; focus (first | (simp; done) | (simp; omega) | omega)) | (with_reducible (refine Since.trans ?_ (by with_reducible assumption)))))); clear hS1) | (go_at_call 15; (with_reducible refine (al_seg2 _ _ (by simp) _).mono ?_); rintro e w2 ⟨b2, o2, c2, rfl, ⟨q0, q1, q2, q3, q4, q5, q6, q7⟩, hS2⟩; have hR2 := hR1.on ((Since.alloc (Since.refl w1) _).trans hS2); have hT2 : Since w w2 := (by (repeat (first | with_reducible (exact Since.refl _) | with_reducible assumption | with_reducible (refine Since.drew ?_) | with_reducible (refine Since.drewN ?_ _) | with_reducible (refine Since.alloc ?_ _) | (with_reducible (refine Since.setCell ?_ ?_ _); rotate_left; focus (first | (simp; done) | (simp; omega) | omega)) | (with_reducible (refine Since.trans ?_ (by with_reducible assumption)))))); clear hS2 hT1 hR1; obtain ⟨b1, o1, rfl, p0, hc1⟩ := hR2 (by simp); obtain ⟨p1, p2, p3, p4, p5, p6, p7⟩ := hc1 0 _ rfl; obtain ⟨r1, r2, r3, r4, r5, r6, r7⟩ := hc1 1 _ rfl; (simp only [Nat.zero_mul, Nat.one_mul, Nat.add_zero, Nat.add_assoc, Nat.reduceAdd] at p1 p2 p3 p4 p5 p6 p7 r1 r2 r3 r4 r5 r6 r7); clear hc1) | (go_at_call 15; (with_reducible refine (al_seg3 _ _ (by simp) _).mono ?_); rintro e w3 ⟨A3, c3, rfl, hS3⟩; have hT3 : Since w2 w3 := (by (repeat (first | with_reducible (exact Since.refl _) | with_reducible assumption | with_reducible (refine Since.drew ?_) | with_reducible (refine Since.drewN ?_ _) | with_reducible (refine Since.alloc ?_ _) | (with_reducible (refine Since.setCell ?_ ?_ _); rotate_left; focus (first | (simp; done) | (simp; omega) | omega)) | (with_reducible (refine Since.trans ?_ (by with_reducible assumption)))))); clear hS3) | (go_at_call 19; (with_reducible refine (al_mid _).mono ?_); rintro e w4 ⟨rfl, hS4⟩; have hT4 : Since w2 w4 := (by (repeat (first | with_reducible (exact Since.refl _) | with_reducible assumption | with_reducible (refine Since.drew ?_) | with_reducible (refine Since.drewN ?_ _) | with_reducible (refine Since.alloc ?_ _) | (with_reducible (refine Since.setCell ?_ ?_ _); rotate_left; focus (first | (simp; done) | (simp; omega) | omega)) | (with_reducible (refine Since.trans ?_ (by with_reducible assumption)))))); clear hS4))
  go_ret
  exact ⟨by first | rfl | simp, hT2.trans hT4⟩
end Go.Proofs.Ytdbenpncnkfliaa

/-
  Outlines in memory: slices of slices of knots; the reference's 'Same' of two that read alike.
-/
namespace Go.Proofs.Ytdbenpncnkfliaa
open Go.RowKit Go.ChangeShapes Go.WideShapes Go.Deep
set_option linter.unusedVariables false

theorem eq_knots (w : World) (a0 a1 b0 b1 : Int) (ak bk : Bool) : (Op.equalIn 10000 39 (.agg #[.int .i64 a0, .int .i64 a1, .bool ak]) (.agg #[.int .i64 b0, .int .i64 b1, .bool bk])).run Try.prog w = .ok ((a0 == b0 && a1 == b1) && ak == bk) w := by
  rw [run_equalIn_struct w 9999 39 _ _ (by kernel_rfl) (by kernel_rfl)]
  have heq : ∀ (d : Nat) (a b : Int) (w : World), (Op.equalIn (d + 1) 3 (.int .i64 a) (.int .i64 b)).run Try.prog w = .ok (a == b) w := fun d a b w => run_equalIn_int w d _ _ _ a b Try.underlying3
  have hc : Try.prog.cellsOf 3 = 1 := by kernel_rfl
  have hcb : Try.prog.cellsOf 4 = 1 := by kernel_rfl
  have heqb : ∀ (d : Nat) (a b : Bool) (w : World), (Op.equalIn (d + 1) 4 (.bool a) (.bool b)).run Try.prog w = .ok (a == b) w := fun d a b w => by simp [Op.equalIn, run_underlying Try.underlying4]
  simp only [Program.fieldsOf, Try.underlying39]
  by_cases h1 : a0 = b0 <;> by_cases h2 : a1 = b1 <;> by_cases h3 : ak = bk <;> simp [go_sem, heqb, h1, h2, h3]
/-- A slice's rows, each of knots. -/
structure OutD where
  n : Nat
  A : Nat → Option Addr
  N : Nat → Nat
  C : Nat → Nat
  X : Nat → Nat → Int
  Y : Nat → Nat → Int
  O : Nat → Nat → Bool
def OutD.hd (D : OutD) (j : Nat) : Value := .slice (D.A j) (D.N j) (D.C j)
/-- An outline that reads as D, in blocks below B. -/
def RdO (w : World) (B : Nat) (A : Option Addr) (D : OutD) : Prop := Rd w B A D.n D.hd ∧ (∀ j, j < D.n → RdK w B (D.A j) (D.N j) (D.X j) (D.Y j) (D.O j)) ∧ ∀ j, j < D.n → D.N j ≤ maxLen
theorem RdO.keep {w w' : World} {B : Nat} {A : Option Addr} {D : OutD} (h : RdO w B A D) (hk : ∀ b o, b < B → w'.cell? ⟨b, o, none⟩ = w.cell? ⟨b, o, none⟩) : RdO w' B A D := ⟨h.1.keep hk, fun j hj => (h.2.1 j hj).keep hk, h.2.2⟩
theorem RdO.more {w : World} {B B' : Nat} {A : Option Addr} {D : OutD} (h : RdO w B A D) (hB : B ≤ B') : RdO w B' A D := ⟨h.1.more hB, fun j hj => (h.2.1 j hj).more hB, h.2.2⟩
theorem RdO.on {w w' : World} {A : Option Addr} {D : OutD} (h : RdO w w.heap.size A D) (k : Since w w') : RdO w' w'.heap.size A D := (h.keep fun b o hb => k.1 b o hb).more k.below.size
/-- Two outlines that read alike. -/
def LikeO (D D' : OutD) : Prop := D'.n = D.n ∧ ∀ j, j < D.n → D'.N j = D.N j ∧ ∀ i, i < D.N j → D'.X j i = D.X j i ∧ D'.Y j i = D.Y j i ∧ D'.O j i = D.O j i
set_option maxRecDepth 100000 in
set_option maxHeartbeats 8000000 in
theorem rf_same7 (A A' : Option Addr) (c c' : Nat) (D D' : OutD) (w : World) (h : RdO w w.heap.size A D) (h' : RdO w w.heap.size A' D') (hl : LikeO D D') (hn : D.n ≤ maxLen) :
    Calls Try.prog 18 #[.slice A D.n c, .slice A' D'.n c'] w fun e w' => e = .returned (.bool true) ∧ Since w w' := by
  obtain ⟨hl0, hl⟩ := hl
  rw [hl0]
  obtain ⟨hR, hK, hM⟩ := h
  obtain ⟨hR', hK', _⟩ := h'
  unfold OutD.hd at hR hR'
  generalize hnn : D.n = n at *
  rw [hl0] at hR' hK'
  clear hl0 hnn
  have hn' : (n : Int) ≤ 9223372036854775807 := by simp only [maxLen] at hn; omega
  have heq := eq_knots
  go_enter Try.func18, Try.ntmps18
  go_wp2
  go_loopw [14] (fun y wr => ∃ j : Nat, j ≤ n ∧ y = .int .i64 (j : Int) ∧ Since w wr) (fun y _ => n - (intOf y).toNat)
  case atStart => exact ⟨0, by omega, rfl, Since.refl _⟩
  case round =>
    obtain ⟨j, hj, rfl, hSr⟩ := hrel
    by_cases hjn : j < n
    · have hjn' : (j : Int) < n := by omega
      obtain ⟨b, o, rfl, hb, hc⟩ := hR (by omega)
      obtain ⟨b', o', rfl, hb', hc'⟩ := hR' (by omega)
      have c1 : wr.cell? ⟨b, o + j, none⟩ = some (.slice (D.A j) (D.N j) (D.C j)) := (hSr.1 _ _ hb).trans (hc j hjn)
      have d1 : wr.cell? ⟨b', o' + j, none⟩ = some (.slice (D'.A j) (D'.N j) (D'.C j)) := (hSr.1 _ _ hb').trans (hc' j hjn)
      have hbw := hSr.2.2.1 _ hb
      have hbw' := hSr.2.2.1 _ hb'
      have kK := hK j hjn
      have kK' := hK' j hjn
      have hMj := hM j hjn
      obtain ⟨hNj, hXj⟩ := hl j hjn
      rw [hNj] at d1 kK'
      have HXJ := Lib.hid hXj
      clear hc hc' hNj hXj hl hR hR' hK hK' hM
      generalize D.A j = LA at *
      generalize D'.A j = LA' at *
      generalize D.N j = m at *
      generalize D.C j = cc at *
      generalize D'.C j = cc' at *
      have hm' : (m : Int) ≤ 9223372036854775807 := by simp only [maxLen] at hMj; omega
      go_upto_region 6 with fail
      refine wp_named fun wa hwa => ?_
      obtain rfl := hwa
      go_cut [27] (fun z wx => z = .bool false ∧ wx = wa.drew)
      case first =>
        go_region
        all_goals (go_wp2_with fail)
        all_goals go_meet
        all_goals exact ⟨rfl, rfl⟩
      obtain ⟨rfl, rfl⟩ := hcut
      have hS := hSr.drew
      have c1 : wa.drew.cell? ⟨b, o + j, none⟩ = _ := c1
      have d1 : wa.drew.cell? ⟨b', o' + j, none⟩ = _ := d1
      go_wp2_with fail
      go_loopw [33] (fun y wq => ∃ k : Nat, k ≤ m ∧ y = .int .i64 (k : Int) ∧ Since wa.drew wq) (fun y _ => m - (intOf y).toNat)
      case atStart => exact ⟨0, by omega, rfl, Since.refl _⟩
      case round =>
        obtain ⟨k, hk, rfl, hSq⟩ := hrel
        have c2 := (hSq.1 _ _ hbw).trans c1
        have d2 := (hSq.1 _ _ hbw').trans d1
        have hbq := hSq.2.2.1 _ hbw
        have hbq' := hSq.2.2.1 _ hbw'
        have hS2 := hS.trans hSq
        clear c1 d1
        by_cases hkm : k < m
        · have hkm' : (k : Int) < m := by omega
          obtain ⟨g, p, rfl, hg, hgc⟩ := kK (by omega)
          obtain ⟨g', p', rfl, hg', hgc'⟩ := kK' (by omega)
          obtain ⟨x1, x2, x3⟩ := hgc k hkm
          obtain ⟨y1, y2, y3⟩ := hgc' k hkm
          obtain ⟨e1, e2, e3⟩ := HXJ.out k hkm
          rw [e1] at y1
          rw [e2] at y2
          rw [e3] at y3
          have x1 := (hS2.1 _ _ hg).trans x1
          have x2 := (hS2.1 _ _ hg).trans x2
          have x3 := (hS2.1 _ _ hg).trans x3
          have y1 := (hS2.1 _ _ hg').trans y1
          have y2 := (hS2.1 _ _ hg').trans y2
          have y3 := (hS2.1 _ _ hg').trans y3
          have hgq := hS2.2.2.1 _ hg
          have hgq' := hS2.2.2.1 _ hg'
          clear hgc hgc' kK kK' e1 e2 e3 HXJ
          generalize D.X j k = xx at *
          generalize D.Y j k = yy at *
          generalize D.O j k = oo at *
          go_wp2_with fail
          go_region
          all_goals (go_wp2_with fail)
          all_goals go_roundw
          case rel => exact ⟨k + 1, by omega, by go_num, hSq.drew⟩
          case measure => simp [intOf]; omega
        · obtain rfl : k = m := by omega
          go_wp2_with fail
          go_roundw
          case rel => exact ⟨j + 1, by omega, by go_num, hS2⟩
          case measure => simp [intOf]; omega
    · obtain rfl : j = n := by omega
      go_wp2
      go_ret
      exact ⟨rfl, hSr⟩
end Go.Proofs.Ytdbenpncnkfliaa

/-
  Rows told by a list: parts of what is read; append in a region that draws its order.
-/
namespace Go.Proofs.Ytdbenpncnkfliaa
open Go.RowKit Go.ChangeShapes Go.WideShapes Go.Deep
set_option linter.unusedVariables false

theorem OwnG.empty {α : Type} {enc : α → List Value} {k : Nat} (t : TypeId) (w : World) (base b : Nat) (hb : b = w.heap.size) (hbase : base ≤ w.heap.size) : OwnG t k enc (w.alloc (.cells #[] t)) base (.slice (some ⟨b, 0, none⟩) 0 0) [] := by
  subst hb
  exact ⟨by simp [cellsG], .inr ⟨w.heap.size, 0, _, rfl, hbase, heap_alloc_new w _, Nat.le_refl _, by simp [maxLen], by simp, by simp [cellsG]⟩⟩
theorem RdG.drop {α : Type} {enc : α → List Value} {k : Nat} {w : World} {B b o : Nat} {L : List α} (h : RdG k enc w B (some ⟨b, o, none⟩) L) (d : Nat) : RdG k enc w B (some ⟨b, o + d * k, none⟩) (L.drop d) := fun hn => by
  obtain ⟨b', o', e, hb, hc⟩ := h (by rw [List.length_drop] at hn; omega)
  injection e with e
  injection e with e1 e2
  subst e1 e2
  refine ⟨b, o + d * k, rfl, hb, fun j s hj i hi => ?_⟩
  rw [List.getElem?_drop] at hj
  have h1 := hc (d + j) s hj i hi
  rw [Nat.add_mul, ← Nat.add_assoc] at h1
  exact h1
theorem RdG.take {α : Type} {enc : α → List Value} {k : Nat} {w : World} {B : Nat} {A : Option Addr} {L : List α} (h : RdG k enc w B A L) (d : Nat) : RdG k enc w B A (L.take d) := fun hn => by
  obtain ⟨b, o, rfl, hb, hc⟩ := h (by rw [List.length_take] at hn; omega)
  refine ⟨b, o, rfl, hb, fun j s hj i hi => hc j s ?_ i hi⟩
  rw [List.getElem?_take] at hj
  split at hj
  · exact hj
  · cases hj
section
variable {α : Type} {k : Nat} {enc : α → List Value} {P : Program}
theorem oper_append_g {w : World} {o : Oper} {a : Act} {K : Act → World → Prop} {Q : Exit → Act → World → Prop} (s x : Operand) (t e : TypeId)
    (ho : o.op = .call { callee := .builtin .append, args := #[s, x], argTypes := #[t, t] }) (hk0 : 0 < k) (hk : ∀ a, (enc a).length = k) (h1 : ∀ a, ∀ u ∈ enc a, u.oneCell' = true) (bytes : Nat)
    (ht : P.underlying t = some (.slice e)) (hinfo : ∃ i z, P.info? e = some i ∧ i.zero = some z ∧ i.size = k ∧ i.bytes = bytes ∧ z.cells.size = k)
    (base : Nat) (v : Value) (L : List α) (hs : a.eval s = v) (hown : OwnG e k enc w base v L) (B : Nat) (A : Option Addr) (n c : Nat) (M : List α) (hn : n = M.length) (hx : a.eval x = .slice A n c) (hr : RdG k enc w B A M)
    (hbytes : (L.length + M.length) * bytes ≤ 140737488355328) (h63 : L.length + M.length ≤ maxLen) (hbase : base ≤ w.heap.size)
    (h : ∀ v' w', OwnG e k enc w' base v' (L ++ M) → w.grownBy w' v.ownBlock → (∀ q, v.ownBlock = some q → base ≤ q ∧ q < w.heap.size) → K (a.put o.dst v') w') :
    Oper.wp P o a w K Q := by
  subst hn
  obtain ⟨i, z, hi, hz, hsz, hby, hzs⟩ := hinfo
  have hrr : Rd w B A (M.length * k) (fun j => (cellsG enc M).getD j undef) := fun hn => by
    have hM : 0 < M.length := by
      rcases Nat.eq_zero_or_pos M.length with h | h
      · rw [h, Nat.zero_mul] at hn; omega
      · exact h
    obtain ⟨b, o', rfl, hb, hc⟩ := hr hM
    refine ⟨b, o', rfl, hb, fun j hj => ?_⟩
    have hjk : j / k < M.length := by rw [Nat.div_lt_iff_lt_mul hk0]; exact hj
    have hm := Nat.mod_lt j hk0
    have hg := hc (j / k) _ (List.getElem?_eq_getElem hjk) (j % k) hm
    have hg2 := cellsG_get hk M (j / k) _ (List.getElem?_eq_getElem hjk) (j % k) hm
    rw [Nat.div_add_mod' j k] at hg2
    rw [Nat.add_assoc, Nat.div_add_mod' j k] at hg
    show _ = some ((cellsG enc M).getD j undef)
    rw [List.getD_eq_getElem?_getD, hg2, ← List.getD_eq_getElem?_getD]
    exact hg
  have hone : ∀ u ∈ tab (M.length * k) (fun j => (cellsG enc M).getD j undef), u.oneCell' = true := by
    rw [← cellsG_tab hk]
    intro u hu
    unfold cellsG at hu
    rw [List.mem_flatMap] at hu
    obtain ⟨a, _, ha⟩ := hu
    exact h1 a u ha
  have hlt := fun q (hq : v.ownBlock = some q) => hown.lt hq
  obtain ⟨v', w', hrun, h2, h3⟩ := run_append_k (P := P) w base t o.type e i z k bytes ht hi hz hsz hby hzs hk0 v L.length (cellsG enc L) hown B A M.length c _ hrr hone hbytes h63 hbase
  rw [← cellsG_tab hk, ← cellsG_append] at h2
  unfold Oper.wp execOp
  simp only [ho, resolve, invoke, builtin, Sem.run_bind, Sem.run_pure, Result.andThen_ok, List.map_toArray, List.map_cons, List.map_nil, hs, hx, hrun]
  refine h v' w' ?_ h3 hlt
  unfold OwnG
  rw [List.length_append]
  exact h2
end
end Go.Proofs.Ytdbenpncnkfliaa

/-
  Layer 11: contours as lists; the law OutlineSegs, walked.
-/
namespace Go.Proofs.Ytdbenpncnkfliaa
open Go.RowKit Go.ChangeShapes Go.WideShapes Go.Deep
set_option linter.unusedVariables false

def ktL (n : Nat) (X Y : Nat → Int) (O : Nat → Bool) : List Kt := (List.range n).map (kAt X Y O)
theorem segsL_len (n : Nat) (X Y : Nat → Int) (O : Nat → Bool) : (segsL n X Y O).length ≤ n := by
  unfold segsL
  split
  · simp
  · exact runS_len _ _ _ _ _ _ _
theorem ktL_len (n : Nat) (X Y : Nat → Int) (O : Nat → Bool) : (ktL n X Y O).length = n := by simp [ktL]
theorem ktL_get {n : Nat} {X Y : Nat → Int} {O : Nat → Bool} {j : Nat} (hj : j < n) : (ktL n X Y O)[j]? = some (kAt X Y O j) := by simp [ktL, hj]
theorem RdK.list {w : World} {B : Nat} {A : Option Addr} {n : Nat} {X Y : Nat → Int} {O : Nat → Bool} (h : RdK w B A n X Y O) : RdKl w B A (ktL n X Y O) := fun hn => by
  rw [ktL_len] at hn
  obtain ⟨b, o, rfl, hb, hc⟩ := h hn
  refine ⟨b, o, rfl, hb, fun j s hj i hi => ?_⟩
  have hjn : j < n := by
    rcases Nat.lt_or_ge j n with h | h
    · exact h
    · rw [List.getElem?_eq_none (by rw [ktL_len]; exact h)] at hj; cases hj
  rw [ktL_get hjn] at hj
  injection hj with hj
  subst hj
  obtain ⟨h1, h2, h3⟩ := hc j hjn
  have hh : i = 0 ∨ i = 1 ∨ i = 2 := by omega
  rcases hh with rfl | rfl | rfl <;> assumption
theorem RdK.of_list {w : World} {B : Nat} {A : Option Addr} {n : Nat} {X Y : Nat → Int} {O : Nat → Bool} (h : RdKl w B A (ktL n X Y O)) : RdK w B A n X Y O := fun hn => by
  obtain ⟨b, o, rfl, hb, hc⟩ := h (by rw [ktL_len]; exact hn)
  exact ⟨b, o, rfl, hb, fun j hj => ⟨hc j _ (ktL_get hj) 0 (by omega), hc j _ (ktL_get hj) 1 (by omega), hc j _ (ktL_get hj) 2 (by omega)⟩⟩
/-- An outline of one contour, just built. -/
def oneD (A : Option Addr) (n c : Nat) (X Y : Nat → Int) (O : Nat → Bool) : OutD := ⟨1, fun _ => A, fun _ => n, fun _ => c, fun _ => X, fun _ => Y, fun _ => O⟩
theorem rdO_one {w : World} {b : Nat} (hb : b = w.heap.size) (t : TypeId) {A : Option Addr} {n c : Nat} {X Y : Nat → Int} {O : Nat → Bool} (h : RdK w w.heap.size A n X Y O) (hn : n ≤ maxLen) :
    RdO (w.alloc (.cells #[.slice A n c] t)) (w.alloc (.cells #[.slice A n c] t)).heap.size (some ⟨b, 0, none⟩) (oneD A n c X Y O) := by
  refine ⟨rd_lit hb (fun j hj => ?_), fun j hj => h.on ((Since.refl w).alloc _), fun j hj => hn⟩
  obtain rfl : j = 0 := by simp only [oneD] at hj; omega
  rfl
theorem likeO_refl (A A' : Option Addr) (n c c' : Nat) (X Y : Nat → Int) (O : Nat → Bool) : LikeO (oneD A n c X Y O) (oneD A' n c' X Y O) := ⟨rfl, fun j hj => ⟨rfl, fun i hi => ⟨rfl, rfl, rfl⟩⟩⟩
set_option maxRecDepth 100000 in
set_option maxHeartbeats 16000000 in
theorem walk_outlinesegs (A : Option Addr) (n c : Nat) (X Y : Nat → Int) (O : Nat → Bool) (w : World) (h : RdK w w.heap.size A n X Y O) (hX : ∀ j, j < n → InP (X j) (Y j)) (hnm : n ≤ maxLen) :
    Calls Try.prog 3 #[.slice A n c] w fun e w' => e = .returned (.bool true) ∧ Since w w' := by
  have hn64 : (n : Int) ≤ 9223372036854775807 := by simp only [maxLen] at hnm; omega
  by_cases hn : n ≤ 5000
  · have hd : decide ((5000 : Int) < (n : Int)) = false := by simp; omega
    have hd2 : ¬ (5000 : Int) < (n : Int) := by omega
    have hlen := ktL_len n X Y O
    have HX := Lib.hid hX
    clear hX
    go_enter Try.func3, Try.ntmps3
    go_wp2_with (first | (go_at_call 14; (with_reducible refine (alive11 _).mono ?_); rintro e w1 ⟨rfl, hS1⟩; have hR1 := h.on hS1; clear h) | (at_builtin; (refine wpList_append_g rfl (.tmp 10) (.tmp 11) 23 39 rfl (by omega) knL_len knL_one 24 Try.underlying23 infoKn w1.heap.size _ [] rfl (OwnG.empty _ w1 w1.heap.size _ rfl (Nat.le_refl _)) _ A c (ktL n X Y O) (by rw [hlen]; rfl) (hR1.on ((Since.refl w1).alloc _)).list ?_ ?_ ?_ ?_; (focus (rw [hlen]; simp; omega)); (focus (rw [hlen]; simp only [maxLen, List.length_nil]; omega)); (focus (simp)); intro v7 w7 hO7 hg7 hb7; have hS7 : Since w1 w7 := (since_grown ((Since.refl w1).alloc _) hg7 (fun q hq => (hb7 q hq).1)); rw [List.nil_append] at hO7; obtain ⟨A7, c7, rfl, hc7, hr7⟩ := hO7.rd (by omega) knL_len; rw [hlen] at hc7; (simp only [hlen]); have hq7 := RdK.of_list hr7; have hR7 := hR1.on hS7; clear hR1 hr7 hO7 hg7 hb7)) | (go_at_call 15; (with_reducible refine (ou_segs_rd A7 n c7 X Y O _ hq7 HX.out (by omega)).mono ?_); rintro e w8 ⟨A8, c8, rfl, hR8, hS8⟩; have hq8 := hq7.on hS8; have hr8 := hR7.on hS8; clear hq7 hR7) | (go_at_call 17; (with_reducible refine (rf_segs_rd A n c X Y O _ hr8 HX.out (by omega)).mono ?_); rintro e w9 ⟨A9, c9, rfl, hR9, hS9⟩; have hq9 := hq8.on hS9; have hr9 := hr8.on hS9; have hR89 := hR8.on hS9; clear hq8 hr8 hR8) | (go_at_call 16; (with_reducible refine (rf_same11 A8 A9 c8 c9 _ _ hR89 hR9 (by have := segsL_len n X Y O; simp only [maxLen]; omega)).mono ?_); rintro e w10 ⟨rfl, hS10⟩; have hqX := hq9.on hS10; have hrX := hr9.on hS10; clear hq9 hr9 hR89 hR9) | (go_at_call 18; (refine (rf_same7 _ _ _ _ (oneD A7 n c7 X Y O) (oneD A n c X Y O) _ ((rdO_one rfl _ hqX (by omega)).on ((Since.refl _).alloc _)) (rdO_one (by simp) _ (hrX.on ((Since.refl _).alloc _)) (by omega)) (likeO_refl _ _ _ _ _ _ _ _) (by simp [oneD, maxLen])).mono ?_); rintro e w11 ⟨rfl, hS11⟩))
    go_ret
    exact ⟨by first | rfl | simp, by (repeat (first | with_reducible (exact Since.refl _) | with_reducible assumption | with_reducible (refine Since.drew ?_) | with_reducible (refine Since.drewN ?_ _) | with_reducible (refine Since.alloc ?_ _) | (with_reducible (refine Since.setCell ?_ ?_ _); rotate_left; focus (first | (simp; done) | (simp; omega) | omega)) | (with_reducible (refine Since.trans ?_ (by with_reducible assumption)))))⟩
  · have hd : decide ((5000 : Int) < (n : Int)) = true := by simp; omega
    have hd2 : (5000 : Int) < (n : Int) := by omega
    go_enter Try.func3, Try.ntmps3
    go_wp2_with (go_at_call 14; (with_reducible refine (alive11 _).mono ?_); rintro e w1 ⟨rfl, hS1⟩)
    go_ret
    exact ⟨rfl, by (repeat (first | with_reducible (exact Since.refl _) | with_reducible assumption | with_reducible (refine Since.drew ?_) | with_reducible (refine Since.drewN ?_ _) | with_reducible (refine Since.alloc ?_ _) | (with_reducible (refine Since.setCell ?_ ?_ _); rotate_left; focus (first | (simp; done) | (simp; omega) | omega)) | (with_reducible (refine Since.trans ?_ (by with_reducible assumption)))))⟩
end Go.Proofs.Ytdbenpncnkfliaa
