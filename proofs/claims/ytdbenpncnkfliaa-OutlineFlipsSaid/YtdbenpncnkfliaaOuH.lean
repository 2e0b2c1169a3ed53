/-
  Layer 11: the reference's 'Segs', walked.
-/
import Derived.Test.YtdbenpncnkfliaaOuF
import Derived.Test.YtdbenpncnkfliaaOuG
import Derived.Test.YtdbenpncnkfliaaKitG
namespace Go.Proofs.Ytdbenpncnkfliaa
open Go.RowKit Go.ChangeShapes Go.WideShapes Go.Deep
set_option linter.unusedVariables false

def knL (k : Kt) : List Value := [.int .i64 k.x, .int .i64 k.y, .bool k.o]
theorem knL_len (k : Kt) : (knL k).length = 3 := rfl
theorem knL_one (k : Kt) : ∀ u ∈ knL k, u.oneCell' = true := by
  intro u hu
  simp only [knL, List.mem_cons, List.not_mem_nil, or_false] at hu
  rcases hu with rfl | rfl | rfl <;> rfl
theorem infoKn0 : (Try.prog.info? 39).map (fun i => (i.zero, i.size, i.bytes)) = some (some (.agg #[.int .i64 0, .int .i64 0, .bool false]), 3, 24) := by kernel_rfl
theorem infoKn : ∃ i z, Try.prog.info? 39 = some i ∧ i.zero = some z ∧ i.size = 3 ∧ i.bytes = 24 ∧ z.cells.size = 3 := by
  obtain ⟨i0, hi, hz0, hz1, hz2⟩ := info_parts infoKn0
  exact ⟨i0, _, hi, hz0, hz1, hz2, rfl⟩
abbrev OwnK (w : World) (base : Nat) (v : Value) (L : List Kt) : Prop := OwnG 39 3 knL w base v L
abbrev RdKl (w : World) (B : Nat) (A : Option Addr) (L : List Kt) : Prop := RdG 3 knL w B A L
theorem kn_one (w : World) (b : Nat) (hb : b = w.heap.size) (ty : TypeId) (k : Kt) : RdKl (w.alloc (.cells #[.int .i64 k.x, .int .i64 k.y, .bool k.o] ty)) (w.alloc (.cells #[.int .i64 k.x, .int .i64 k.y, .bool k.o] ty)).heap.size (some ⟨b, 0, none⟩) [k] :=
  rdG_one hb k (fun i hi => by
    have h : i = 0 ∨ i = 1 ∨ i = 2 := by omega
    rcases h with rfl | rfl | rfl <;> rfl)
/-- append of one knot, just built. -/
theorem wpList_append_kn {w : World} {ops : Array Oper} {rest : List Oper} {o : Oper} {a : Act} {Q : Exit → Act → World → Prop} (hgd : o.guard = none) (s x : Operand)
    (ho : o.op = .call { callee := .builtin .append, args := #[s, x], argTypes := #[22, 22] })
    (base : Nat) (v : Value) (L : List Kt) (hs : a.eval s = v) (hown : OwnK w base v L) (B b c : Nat) (p : Kt) (hx : a.eval x = .slice (some ⟨b, 0, none⟩) 1 c) (hp : RdKl w B (some ⟨b, 0, none⟩) [p]) (hL : L.length ≤ 3000000) (hbase : base ≤ w.heap.size)
    (h : ∀ v' w', OwnK w' base v' (L ++ [p]) → w.grownBy w' v.ownBlock → (∀ q, v.ownBlock = some q → base ≤ q ∧ q < w.heap.size) → wpList Try.prog ops Q rest (a.put o.dst v') w') :
    wpList Try.prog ops Q (o :: rest) a w :=
  wpList_append_g hgd s x 22 39 ho (by omega) knL_len knL_one 24 Try.underlying22 infoKn base v L hs hown B _ c [p] hx hp (by simp only [List.length_cons, List.length_nil]; omega) (by simp only [List.length_cons, List.length_nil, maxLen]; omega) hbase h
theorem cut_step {W : List Kt} {w0 : Kt} (hw : w0.o = true) (hlast : W.getLast? = some w0) {i : Nat} {k : Kt} (hk : W[i]? = some k) (h : Int × Int) (L : List Sg) :
    ∃ j cx cy cur k2, j < W.length ∧ W[j]? = some k2 ∧ cutR h L (W.drop i) = cutR (k2.x, k2.y) (addS L ⟨h.1, h.2, cx, cy, k2.x, k2.y, cur⟩) (W.drop (j + 1)) ∧
      ((k.o = true ∧ j = i ∧ cx = 0 ∧ cy = 0 ∧ cur = false) ∨ (k.o = false ∧ j = i + 1 ∧ cx = k.x ∧ cy = k.y ∧ cur = true)) := by
  have hil : i < W.length := by
    rcases Nat.lt_or_ge i W.length with h | h
    · exact h
    · rw [List.getElem?_eq_none h] at hk; cases hk
  have hki : W[i] = k := by rw [List.getElem?_eq_getElem hil] at hk; injection hk
  cases ho : k.o with
  | true =>
    refine ⟨i, 0, 0, false, k, hil, hk, ?_, .inl ⟨rfl, rfl, rfl, rfl, rfl⟩⟩
    rw [List.drop_eq_getElem_cons hil, hki, cutR_on _ _ _ _ ho]
  | false =>
    have hi2 : i + 1 < W.length := by
      rcases Nat.lt_or_ge (i + 1) W.length with h | h
      · exact h
      · have e : i = W.length - 1 := by omega
        rw [List.getLast?_eq_getElem?, ← e, hk] at hlast
        injection hlast with hlast
        rw [hlast, hw] at ho
        cases ho
    refine ⟨i + 1, k.x, k.y, true, W[i + 1], hi2, List.getElem?_eq_getElem hi2, ?_, .inr ⟨rfl, rfl, rfl, rfl, rfl⟩⟩
    rw [List.drop_eq_getElem_cons hil, hki, List.drop_eq_getElem_cons hi2, cutR_off _ _ _ _ _ ho]
theorem sput6 {w : World} {b : Nat} {ax ay cx cy bx bz : Int} {k : Bool} (h : Row w b 7 (Sf ⟨ax, ay, cx, cy, bx, bz, k⟩)) (x : Bool) : Row (w.setCell ⟨b, 6, none⟩ (.bool x)) b 7 (Sf ⟨ax, ay, cx, cy, bx, bz, x⟩) := by
  refine (h.set 6 _).congr fun j hj => ?_
  have hh : j = 0 ∨ j = 1 ∨ j = 2 ∨ j = 3 ∨ j = 4 ∨ j = 5 ∨ j = 6 := by omega
  rcases hh with rfl | rfl | rfl | rfl | rfl | rfl | rfl <;> rfl
theorem sgL_len (s : Sg) : (sgL s).length = 7 := rfl
theorem infoSg : ∃ i z, Try.prog.info? 37 = some i ∧ i.zero = some z ∧ i.size = 7 ∧ i.bytes = 56 ∧ z.cells.size = 7 := by
  obtain ⟨i0, hi, hz0, hz1, hz2⟩ := info_parts infoSeg
  exact ⟨i0, _, hi, hz0, hz1, hz2, rfl⟩
/-- append of one piece, just built. -/
theorem wpList_append_sg {w : World} {ops : Array Oper} {rest : List Oper} {o : Oper} {a : Act} {Q : Exit → Act → World → Prop} (hgd : o.guard = none) (s x : Operand)
    (ho : o.op = .call { callee := .builtin .append, args := #[s, x], argTypes := #[25, 25] })
    (base : Nat) (v : Value) (L : List Sg) (hs : a.eval s = v) (hown : OwnS w base v L) (b c : Nat) (p : Sg) (hx : a.eval x = .slice (some ⟨b, 0, none⟩) 1 c) (hp : SegAt w b p) (hL : L.length ≤ 3000000) (hbase : base ≤ w.heap.size)
    (h : ∀ v' w', OwnS w' base v' (L ++ [p]) → w.grownBy w' v.ownBlock → (∀ q, v.ownBlock = some q → base ≤ q) → wpList Try.prog ops Q rest (a.put o.dst v') w') :
    wpList Try.prog ops Q (o :: rest) a w := by
  obtain ⟨h1, h2, h3, h4, h5, h6, h7, h8⟩ := hp
  have hr : RdG 7 sgL w w.heap.size (some ⟨b, 0, none⟩) [p] := fun _ => ⟨b, 0, rfl, h8, fun j s hj i hi => by
    cases j with
    | succ j => simp at hj
    | zero =>
      simp only [List.getElem?_cons_zero, Option.some.injEq] at hj
      subst hj
      rw [Nat.zero_mul, Nat.zero_add]
      have hh : i = 0 ∨ i = 1 ∨ i = 2 ∨ i = 3 ∨ i = 4 ∨ i = 5 ∨ i = 6 := by omega
      rcases hh with rfl | rfl | rfl | rfl | rfl | rfl | rfl <;> assumption⟩
  exact wpList_append_g hgd s x 25 37 ho (by omega) sgL_len sgL_ones 56 Try.underlying25 infoSg base v L hs hown _ _ c [p] hx hr (by simp only [List.length_cons, List.length_nil]; omega) (by simp only [List.length_cons, List.length_nil, maxLen]; omega) hbase (fun v' w' h9 hg hb => h v' w' h9 hg (fun q hq => (hb q hq).1))
theorem cut_end (W : List Kt) (h : Int × Int) (L : List Sg) : cutR h L (W.drop W.length) = L := by rw [List.drop_length, cutR_nil]
set_option maxRecDepth 100000 in
theorem rf_segs_nil (A : Option Addr) (c : Nat) (X Y : Nat → Int) (O : Nat → Bool) (w : World) : Calls Try.prog 17 #[.slice A 0 c] w (SegsOut w (segsL 0 X Y O)) := by
  go_enter Try.func17, Try.ntmps17
  go_wp2
  go_ret
  exact ⟨_, _, rfl, Nat.le_refl _, OwnS.nil _ _, by (repeat (first | with_reducible (exact Since.refl _) | with_reducible assumption | with_reducible (refine Since.drew ?_) | with_reducible (refine Since.drewN ?_ _) | with_reducible (refine Since.alloc ?_ _) | (with_reducible (refine Since.setCell ?_ ?_ _); rotate_left; focus (first | (simp; done) | (simp; omega) | omega)) | (with_reducible (refine Since.trans ?_ (by with_reducible assumption)))))⟩
set_option maxRecDepth 100000 in
set_option maxHeartbeats 32000000 in
theorem rf_segs_pos (A : Option Addr) (n c : Nat) (X Y : Nat → Int) (O : Nat → Bool) (w : World) (h : RdK w w.heap.size A n X Y O) (hX : ∀ j, j < n → InP (X j) (Y j)) (hn0 : 0 < n) (hn : n ≤ 1000000) :
    Calls Try.prog 17 #[.slice A n c] w (SegsOut w (segsL n X Y O)) := by
  have hn1 : (0 : Int) < n := by omega
  obtain ⟨b, o, rfl, hb, hc⟩ := h hn0
  have hlen : decide ((n : Int) = 0) = false := by simp; omega
  have hlen2 : ((n : Int) == 0) = false := by simp; omega
  have hat := fun x y k w => rf_at x y k w
  unfold Kn Pt at hat
  have HC := Lib.hid hc
  have HX := Lib.hid hX
  have HP := Lib.hid hat
  have HF := Lib.hid (firstOn_is O n)
  clear hc hX hat h
  go_enter Try.func17, Try.ntmps17
  go_upto_block 0 with fail
  go_cut [3] (fun y wx => y = .int .i64 (firstOn O n : Int) ∧ Since w wx)
  case first =>
    go_wp2_with fail
    go_loopw [3] (fun y wr => ∃ j : Nat, j ≤ n ∧ y = .int .i64 (j : Int) ∧ Hid (∀ i, i < j → O i = false) ∧ Since w wr) (fun y _ => n - (intOf y).toNat)
    case atStart => exact ⟨0, by omega, rfl, Lib.hid (fun i hi => absurd hi (by omega)), Since.refl _⟩
    case round =>
      obtain ⟨j, hj, rfl, HA, hSr⟩ := hrel
      by_cases hjn : j < n
      · have hjn' : (j : Int) < n := by omega
        have c3 := (hSr.1 _ _ hb).trans (HC.out j hjn).2.2
        have hblt := hSr.2.2.1 _ hb
        cases ho : O j
        · rw [ho] at c3
          go_wp2_with fail
          go_roundw
          case rel => exact ⟨j + 1, by omega, by go_num, Lib.hid (fun i hi => by
            by_cases e : i = j
            · subst e; exact ho
            · exact HA.out i (by omega)), hSr⟩
          case measure => simp [intOf]; omega
        · rw [ho] at c3
          go_wp2_with fail
          go_meet
          exact ⟨by rw [firstOn_eq hjn HA.out ho], hSr⟩
      · obtain rfl : j = n := by omega
        go_wp2_with fail
        go_meet
        exact ⟨by rw [firstOn_none HA.out], hSr⟩
  obtain ⟨rfl, hS⟩ := hcut
  go_upto_if 33 with fail
  go_cut [3, 4] (fun y v wx => y = .int .i64 (frs n O : Int) ∧ OwnK wx w.heap.size v (wayStart n X Y O) ∧ Since w wx)
  case first =>
    by_cases hlt : firstOn O n < n
    · have e1 : (((firstOn O n : Nat) : Int) == (n : Int)) = false := by simp; omega
      have e2 : frs n O = firstOn O n := by unfold frs; rw [if_pos hlt]
      have e3 : wayStart n X Y O = [] := by unfold wayStart; rw [if_pos hlt]
      have HE2 := Lib.hid e2
      have HE3 := Lib.hid e3
      clear e2 e3
      go_wp2_with fail
      go_meet
      rw [HE2.out, HE3.out]
      exact ⟨rfl, OwnG.nil _ _ _ _ _, hS⟩
    · have e0 : firstOn O n = n := by have := (firstOn_is O n).1; omega
      have e2 : frs n O = 0 := by unfold frs; rw [if_neg hlt]
      have e3 : wayStart n X Y O = [⟨mid (X (n - 1)) (X 0), mid (Y (n - 1)) (Y 0), true⟩] := by unfold wayStart; rw [if_neg hlt]; rfl
      have e1 : (((firstOn O n : Nat) : Int) == (n : Int)) = true := by simp [e0]
      have HE2 := Lib.hid e2
      have HE3 := Lib.hid e3
      have hm := fun w => rf_mid (X (n - 1)) (Y (n - 1)) (X 0) (Y 0) (HX.out _ (by omega)) (HX.out _ hn0) w
      obtain ⟨x1, x2, x3⟩ := HC.out (n - 1) (by omega)
      obtain ⟨y1, y2, y3⟩ := HC.out 0 hn0
      have p1 := (hS.1 _ _ hb).trans x1
      have p2 := (hS.1 _ _ hb).trans x2
      have p3 := (hS.1 _ _ hb).trans x3
      have q1 := (hS.1 _ _ hb).trans y1
      have q2 := (hS.1 _ _ hb).trans y2
      have q3 := (hS.1 _ _ hb).trans y3
      simp only [Nat.zero_mul, Nat.add_zero] at q1 q2 q3
      have hb3 := hS.2.2.1 _ hb
      have k1 : IntKind.i64.wrap ((n : Int) - 1) = (n : Int) - 1 := IntWalk.i64_in _ (by omega)
      have k2 : (0 : Int) ≤ (n : Int) - 1 := by omega
      have k3 : ((n : Int) - 1).toNat = n - 1 := by omega
      have k4 : (n : Int) - 1 < (n : Int) := by omega
      have k5 : (1 : Int) ≤ (n : Int) := by omega
      unfold Pt at hm
      generalize mid (X (n - 1)) (X 0) = mx at *
      generalize mid (Y (n - 1)) (Y 0) = my at *
      generalize X (n - 1) = xl at *
      generalize Y (n - 1) = yl at *
      generalize O (n - 1) = ol at *
      generalize X 0 = x0 at *
      generalize Y 0 = y0 at *
      generalize O 0 = o0 at *
      have HM := Lib.hid hm
      clear hm x1 x2 x3 y1 y2 y3 e2 e3 HC HX HF e0 hlt
      go_upto_region 9 with fail
      refine wp_named fun wa hwa => ?_
      obtain rfl := hwa
      go_cut [5] (fun z wx => ∃ r : Nat, z = .pointer (some ⟨r, 0, none⟩) ∧ wa.heap.size ≤ r ∧ Since wa wx ∧ Row wx r 2 (Pf mx my))
      case first =>
        clear hS
        (refine wp_named fun wr7 hwr7 => ?_; go_region_held3 (fun w' => (∀ b o, b < wr7.heap.size → w'.cell? ⟨b, o, none⟩ = wr7.cell? ⟨b, o, none⟩) ∧ (∀ b o, b < wr7.heap.size → w'.frozen? ⟨b, o, none⟩ = wr7.frozen? ⟨b, o, none⟩) ∧ (∀ k, k < wr7.heap.size → k < w'.heap.size) ∧ Below wr7.heap.size wr7 w') ((subst hwr7; (repeat (with_reducible (refine since_put ?_ ?_ _); rotate_left; focus (first | (simp; done) | (simp; omega) | omega))); first | with_reducible assumption | (refine since_step (by with_reducible assumption) ?_; first | with_reducible assumption | ((repeat (first | with_reducible (exact Since.refl _) | with_reducible assumption | with_reducible (refine Since.drew ?_) | with_reducible (refine Since.drewN ?_ _) | with_reducible (refine Since.alloc ?_ _) | (with_reducible (refine Since.setCell ?_ ?_ _); rotate_left; focus (first | (simp; done) | (simp; omega) | omega)))); done)) | (refine since_step (Since.refl _) ?_; first | with_reducible assumption | ((repeat (first | with_reducible (exact Since.refl _) | with_reducible assumption | with_reducible (refine Since.drew ?_) | with_reducible (refine Since.drewN ?_ _) | with_reducible (refine Since.alloc ?_ _) | (with_reducible (refine Since.setCell ?_ ?_ _); rotate_left; focus (first | (simp; done) | (simp; omega) | omega)) | (with_reducible (refine Since.trans ?_ (by with_reducible assumption))))); done)))) (first | (go_at_call 49; (with_reducible refine (HP.out _ _ _ _).mono ?_); rintro e w8 ⟨rfl, hS8⟩; have hT8 := hS8; obtain ⟨hc8, hf8, hz8, hb8⟩ := hT8; have hZ8 := hS8.below.size; (try simp at hZ8); (try have hq8 := hz8 wa.heap.size (by first | with_reducible assumption | (simp; done) | (simp; omega)))) | (go_at_call 20; (with_reducible refine (HM.out _).mono ?_); rintro e w8 ⟨rfl, hS8⟩; have hT8 := hS8; obtain ⟨hc8, hf8, hz8, hb8⟩ := hT8; have hZ8 := hS8.below.size; (try simp at hZ8); (try have hq8 := hz8 wa.heap.size (by first | with_reducible assumption | (simp; done) | (simp; omega))))); all_goals (rename_i hHeld; have hR7 : Since wr7 _ := hHeld; obtain ⟨hcR7, hfR7, hzR7, hbR7⟩ := hHeld; subst hwr7))
        all_goals (go_wp2_with fail)
        all_goals go_meet
        all_goals refine ⟨_, rfl, ?_, ?_, ?_⟩
        any_goals ((show _ ≤ _); first | omega | (simp; omega))
        any_goals ((show Since _ _); (repeat (first | with_reducible (exact Since.refl _) | with_reducible assumption | with_reducible (refine Since.drew ?_) | with_reducible (refine Since.drewN ?_ _) | with_reducible (refine Since.alloc ?_ _) | (with_reducible (refine Since.setCell ?_ ?_ _); rotate_left; focus (first | (simp; done) | (simp; omega) | omega)) | (with_reducible (refine Since.trans ?_ (by with_reducible assumption))))); done)
        all_goals (repeat (first | with_reducible assumption | (with_reducible (refine prow _ _ ?_ _ mx my); focus (first | with_reducible rfl | (simp; done))) | (with_reducible (refine prow _ _ ?_ _ 0 0); focus (first | with_reducible rfl | (simp; done))) | with_reducible (refine pput0 ?_ mx my) | with_reducible (refine Row.drew ?_) | with_reducible (refine Row.alloc ?_ _) | with_reducible (refine Row.since ?_ (by with_reducible assumption))))
      obtain ⟨r, rfl, hr, hS1, rR⟩ := hcut
      have hS := hS.trans hS1
      obtain ⟨r1, r2, r3⟩ := pcells rR
      go_wp2_with (at_builtin; refine wpList_append_kn rfl _ _ rfl w.heap.size _ [] rfl (OwnG.nil _ _ _ _ _) _ _ 1 ⟨mx, my, true⟩ rfl (kn_one wc _ rfl _ ⟨mx, my, true⟩) (by simp) (by have := hS.below.size; simp; omega) ?_; intro v7 w7 hO8 hg7 hb7)
      go_meet
      rw [HE2.out, HE3.out]
      exact ⟨rfl, hO8, since_grown (hS.alloc _) hg7 (fun q hq => by cases hq)⟩
  obtain ⟨rfl, hO, hS⟩ := hcut
  have hfl := frs_lt (O := O) hn0
  have hcutW := way_cut n X Y O hn0
  have hwl := wayN_len (frs n O) n X Y O (wayStart n X Y O)
  have hsl : (wayStart n X Y O).length ≤ 1 := by unfold wayStart; split <;> simp
  have HCW := Lib.hid hcutW
  clear hcutW
  generalize frs n O = f at *
  go_upto_block 2 with fail
  go_cut [4] (fun v wx => OwnK wx w.heap.size v (wayN f n X Y O (wayStart n X Y O) n) ∧ Since w wx)
  case first =>
    go_wp2_with fail
    go_loopw [4, 6] (fun v y wr => ∃ i : Nat, i ≤ n ∧ y = .int .i64 (i : Int) ∧ OwnK wr w.heap.size v (wayN f n X Y O (wayStart n X Y O) i) ∧ Since w wr) (fun _ y _ => n - (intOf y).toNat)
    case atStart => exact ⟨0, by omega, rfl, hO, hS⟩
    case round =>
      obtain ⟨i, hi, rfl, hO, hS⟩ := hrel
      by_cases hin : i < n
      · have hin' : (i : Int) < n := by omega
        have hk : (f + i) % n < n := Nat.mod_lt _ hn0
        have u1 : IntKind.i64.wrap ((f : Int) + (i : Int)) = (f : Int) + (i : Int) := IntWalk.i64_in _ (by omega)
        have u3 : ((f : Int) + (i : Int)).tmod (n : Int) = (((f + i) % n : Nat) : Int) := by rw [Int.tmod_eq_emod_of_nonneg (by omega), Int.natCast_emod, Int.natCast_add]
        obtain ⟨x1, x2, x3⟩ := HC.out _ hk
        have hik := HX.out _ hk
        have hstep : wayN f n X Y O (wayStart n X Y O) (i + 1) = wayPre (wayN f n X Y O (wayStart n X Y O) i) (kAt X Y O ((f + i) % n)) ++ [kAt X Y O ((f + i) % n)] := by rw [← wayAdd_eq]; rfl
        have hwi := hwl i
        unfold kAt at hstep
        have HST := Lib.hid hstep
        clear hstep hwl
        generalize (f + i) % n = k at *
        generalize X k = xk at *
        generalize Y k = yk at *
        have k1 : wr.cell? ⟨b, o + k * 3, none⟩ = some (.int .i64 xk) := (hS.1 _ _ hb).trans x1
        have k2 : wr.cell? ⟨b, o + k * 3 + 1, none⟩ = some (.int .i64 yk) := (hS.1 _ _ hb).trans x2
        have k3 : wr.cell? ⟨b, o + k * 3 + 2, none⟩ = some (.bool (O k)) := (hS.1 _ _ hb).trans x3
        generalize O k = ok at *
        have hbw := hS.2.2.1 _ hb
        have hkI : (k : Int) < n := by omega
        have hnz : (n : Int) ≠ 0 := by omega
        clear x1 x2 x3
        have hWin := wayN_in (f := f) (O := O) hn0 HX.out i
        generalize wayN f n X Y O (wayStart n X Y O) i = W at *
        obtain ⟨A', c', rfl, hc', hr⟩ := hO.rd (by omega) knL_len
        have hob := fun (q : Nat) (hq : (Value.slice A' W.length c').ownBlock = some q) => (hO.lt hq).2
        go_upto_region 15 with fail
        refine wp_named fun w3 hw3 => ?_
        have rK : Row w3 wr.heap.size 3 (Kf xk yk ok) := by subst hw3; exact krow wr _ rfl _ _ _ _
        have hS3 : Since wr w3 := by subst hw3; (repeat (first | with_reducible (exact Since.refl _) | with_reducible assumption | with_reducible (refine Since.drew ?_) | with_reducible (refine Since.drewN ?_ _) | with_reducible (refine Since.alloc ?_ _) | (with_reducible (refine Since.setCell ?_ ?_ _); rotate_left; focus (first | (simp; done) | (simp; omega) | omega)) | (with_reducible (refine Since.trans ?_ (by with_reducible assumption)))))
        have hkb : w.heap.size ≤ wr.heap.size := hS.below.size
        clear hw3 k1 k2 k3 hbw u1 u3
        have hS := hS.trans hS3
        have hO := hO.since hS3
        have hr := hr.on hS3
        generalize wr.heap.size = kb at *
        obtain ⟨k1, k2, k3, k4⟩ := kcells rK
        clear hS3
        refine wp_named fun w4 hw4 => ?_
        obtain rfl := hw4
        go_cut [86] (fun z wx => z = .bool (lastOff W ⟨xk, yk, ok⟩) ∧ wx = w4)
        case first =>
          cases hg : W.getLast? with
          | none =>
            obtain rfl : W = [] := by simpa using hg
            have e0 : lastOff [] ⟨xk, yk, ok⟩ = false := rfl
            have E0 := Lib.hid e0
            clear e0
            cases ok
            all_goals (go_wp2_with fail)
            all_goals go_meet
            all_goals exact ⟨by rw [E0.out], rfl⟩
          | some l =>
            obtain ⟨hm, hget⟩ := last_get hg
            have e0 : lastOff W ⟨xk, yk, ok⟩ = (!ok && !l.o) := by unfold lastOff; rw [hg]
            have E0 := Lib.hid e0
            obtain ⟨g, go', rfl, hgb, hcell⟩ := hr hm
            have l3 := hcell _ _ hget 2 (by omega)
            simp only [knL, List.getD_cons_succ, List.getD_cons_zero] at l3
            generalize hmm : W.length = m at *
            have q1 : IntKind.i64.wrap ((m : Int) - 1) = (m : Int) - 1 := IntWalk.i64_in _ (by omega)
            have q2 : (0 : Int) ≤ (m : Int) - 1 := by omega
            have q3 : ((m : Int) - 1).toNat = m - 1 := by omega
            have q4 : (m : Int) - 1 < (m : Int) := by omega
            have q5 : (1 : Int) ≤ (m : Int) := by omega
            have q6 : decide ((0 : Int) < (m : Int)) = true := by simp; omega
            have q7 : (0 : Int) < (m : Int) := by omega
            generalize l.o = lo at *
            clear e0 hcell hget hg hr HC HX HF HST HCW
            cases ok <;> cases lo
            all_goals (go_wp2_with fail)
            all_goals go_meet
            all_goals exact ⟨by rw [E0.out]; rfl, rfl⟩
        obtain ⟨rfl, rfl⟩ := hcut
        go_upto_if 86 with fail
        go_cut [4] (fun v wx => OwnK wx w.heap.size v (wayPre W ⟨xk, yk, ok⟩) ∧ Since w wx ∧ Row wx kb 3 (Kf xk yk ok))
        case first =>
          cases hlo : lastOff W ⟨xk, yk, ok⟩
          · have hpre := wayPre_no hlo
            have HPR := Lib.hid hpre
            clear hpre
            go_wp2_with fail
            go_meet
            rw [HPR.out]
            exact ⟨hO, hS, rK⟩
          · obtain ⟨l, hg, hpre⟩ := wayPre_yes hlo
            obtain ⟨hm, hget⟩ := last_get hg
            have hli := hWin l (List.mem_of_getLast? hg)
            have hmd := fun w => rf_mid l.x l.y xk yk hli hik w
            have hpre : wayPre W ⟨xk, yk, ok⟩ = W ++ [⟨mid l.x xk, mid l.y yk, true⟩] := hpre
            unfold Pt at hmd
            have HPR := Lib.hid hpre
            obtain ⟨g, go', rfl, hgb, hcell⟩ := hr hm
            have l1 := hcell _ _ hget 0 (by omega)
            have l2 := hcell _ _ hget 1 (by omega)
            have l3 := hcell _ _ hget 2 (by omega)
            simp only [knL, List.getD_cons_succ, List.getD_cons_zero, Nat.add_zero] at l1 l2 l3
            generalize mid l.x xk = mx at *
            generalize mid l.y yk = my at *
            generalize l.x = lx at *
            generalize l.y = ly at *
            generalize l.o = lo at *
            have HM := Lib.hid hmd
            have q1 : IntKind.i64.wrap ((W.length : Int) - 1) = (W.length : Int) - 1 := IntWalk.i64_in _ (by omega)
            have q2 : (0 : Int) ≤ (W.length : Int) - 1 := by omega
            have q3 : ((W.length : Int) - 1).toNat = W.length - 1 := by omega
            have q4 : (W.length : Int) - 1 < (W.length : Int) := by omega
            have q5 : (1 : Int) ≤ (W.length : Int) := by omega
            clear hcell hget hg hr HC HX HF HST HCW hmd hpre hlo
            go_upto_region 16 with fail
            refine wp_named fun wa hwa => ?_
            obtain rfl := hwa
            go_cut [8] (fun z wx => ∃ r : Nat, z = .pointer (some ⟨r, 0, none⟩) ∧ wa.heap.size ≤ r ∧ Since wa wx ∧ Row wx r 2 (Pf mx my))
            case first =>
              clear hS hO rK HPR
              (refine wp_named fun wr7 hwr7 => ?_; go_region_held3 (fun w' => (∀ b o, b < wr7.heap.size → w'.cell? ⟨b, o, none⟩ = wr7.cell? ⟨b, o, none⟩) ∧ (∀ b o, b < wr7.heap.size → w'.frozen? ⟨b, o, none⟩ = wr7.frozen? ⟨b, o, none⟩) ∧ (∀ k, k < wr7.heap.size → k < w'.heap.size) ∧ Below wr7.heap.size wr7 w') ((subst hwr7; (repeat (with_reducible (refine since_put ?_ ?_ _); rotate_left; focus (first | (simp; done) | (simp; omega) | omega))); first | with_reducible assumption | (refine since_step (by with_reducible assumption) ?_; first | with_reducible assumption | ((repeat (first | with_reducible (exact Since.refl _) | with_reducible assumption | with_reducible (refine Since.drew ?_) | with_reducible (refine Since.drewN ?_ _) | with_reducible (refine Since.alloc ?_ _) | (with_reducible (refine Since.setCell ?_ ?_ _); rotate_left; focus (first | (simp; done) | (simp; omega) | omega)))); done)) | (refine since_step (Since.refl _) ?_; first | with_reducible assumption | ((repeat (first | with_reducible (exact Since.refl _) | with_reducible assumption | with_reducible (refine Since.drew ?_) | with_reducible (refine Since.drewN ?_ _) | with_reducible (refine Since.alloc ?_ _) | (with_reducible (refine Since.setCell ?_ ?_ _); rotate_left; focus (first | (simp; done) | (simp; omega) | omega)) | (with_reducible (refine Since.trans ?_ (by with_reducible assumption))))); done)))) (first | (go_at_call 49; (with_reducible refine (HP.out _ _ _ _).mono ?_); rintro e w8 ⟨rfl, hS8⟩; have hT8 := hS8; obtain ⟨hc8, hf8, hz8, hb8⟩ := hT8; have hZ8 := hS8.below.size; (try simp at hZ8); (try have hq8 := hz8 wa.heap.size (by first | with_reducible assumption | (simp; done) | (simp; omega)))) | (go_at_call 20; (with_reducible refine (HM.out _).mono ?_); rintro e w8 ⟨rfl, hS8⟩; have hT8 := hS8; obtain ⟨hc8, hf8, hz8, hb8⟩ := hT8; have hZ8 := hS8.below.size; (try simp at hZ8); (try have hq8 := hz8 wa.heap.size (by first | with_reducible assumption | (simp; done) | (simp; omega))))); all_goals (rename_i hHeld; have hR7 : Since wr7 _ := hHeld; obtain ⟨hcR7, hfR7, hzR7, hbR7⟩ := hHeld; subst hwr7))
              all_goals (go_wp2_with fail)
              all_goals go_meet
              all_goals refine ⟨_, rfl, ?_, ?_, ?_⟩
              any_goals ((show _ ≤ _); first | omega | (simp; omega))
              any_goals ((show Since _ _); (repeat (first | with_reducible (exact Since.refl _) | with_reducible assumption | with_reducible (refine Since.drew ?_) | with_reducible (refine Since.drewN ?_ _) | with_reducible (refine Since.alloc ?_ _) | (with_reducible (refine Since.setCell ?_ ?_ _); rotate_left; focus (first | (simp; done) | (simp; omega) | omega)) | (with_reducible (refine Since.trans ?_ (by with_reducible assumption))))); done)
              all_goals (repeat (first | with_reducible assumption | (with_reducible (refine prow _ _ ?_ _ mx my); focus (first | with_reducible rfl | (simp; done))) | (with_reducible (refine prow _ _ ?_ _ 0 0); focus (first | with_reducible rfl | (simp; done))) | with_reducible (refine pput0 ?_ mx my) | with_reducible (refine Row.drew ?_) | with_reducible (refine Row.alloc ?_ _) | with_reducible (refine Row.since ?_ (by with_reducible assumption))))
            obtain ⟨r, rfl, hr, hS1, rR⟩ := hcut
            have hS := hS.trans hS1
            have hO := hO.since hS1
            have rK := rK.since hS1
            clear hS1 k1 k2 k3 k4 l1 l2 l3 q1 q2 q3 q4 q5
            obtain ⟨r1, r2, r3⟩ := pcells rR
            go_wp2_with (at_builtin; refine wpList_append_kn rfl _ _ rfl w.heap.size _ _ rfl (hO.alloc _) _ _ 1 ⟨mx, my, true⟩ rfl (kn_one wc _ rfl _ ⟨mx, my, true⟩) (by omega) (by have := hS.below.size; simp; omega) ?_; intro v7 w7 hO8 hg7 hb7)
            go_meet
            rw [HPR.out]
            exact ⟨hO8, since_grown (hS.alloc _) hg7 (fun q hq => by have := (hb7 _ hq).1; omega), (rK.alloc _).grownB hg7 (fun e => by have := hob _ e; omega)⟩
        obtain ⟨hO, hS, rK⟩ := hcut
        clear k1 k2 k3 k4
        obtain ⟨k1, k2, k3, k4⟩ := kcells rK
        have hpl : (wayPre W ⟨xk, yk, ok⟩).length ≤ W.length + 1 := wayPre_len W _
        go_upto_region 13 with (at_builtin; refine wpList_append_kn rfl _ _ rfl w.heap.size _ _ rfl (hO.alloc _) _ _ 1 ⟨xk, yk, ok⟩ rfl (kn_one _ _ rfl _ ⟨xk, yk, ok⟩) (by omega) (by have := hS.below.size; simp; omega) ?_; intro v7 w7 hO8 hg7 hb7)
        have hSn : Since w w7 := since_grown (hS.alloc _) hg7 (fun q hq => by have := (hb7 _ hq).1; omega)
        go_wp2_with fail
        go_roundw
        case rel => exact ⟨i + 1, by omega, by go_num, by rw [HST.out]; exact hO8, hSn⟩
        case measure => simp [intOf]; omega
      · obtain rfl : i = n := by omega
        go_wp2_with fail
        go_meet
        exact ⟨hO, hS⟩
  obtain ⟨hO, hS⟩ := hcut
  obtain ⟨⟨wx0, wy0, wo0⟩, r0, hW, hw0, hcu⟩ := HCW.out
  obtain rfl : wo0 = true := hw0
  have hlenW := hwl n
  rw [hW] at hlenW hO
  have hlr : r0.length + 1 ≤ 1 + 2 * n := by simp only [List.length_cons] at hlenW; omega
  obtain ⟨A', c', rfl, hc', hr⟩ := hO.rd (by omega) knL_len
  have hob := fun (q : Nat) (hq : (Value.slice A' ((Kt.mk wx0 wy0 true) :: r0).length c').ownBlock = some q) => (hO.lt hq).2
  obtain ⟨g, go', rfl, hgb, hcell⟩ := hr (by simp)
  have l1 := hcell 0 (Kt.mk wx0 wy0 true) rfl 0 (by omega)
  have l2 := hcell 0 (Kt.mk wx0 wy0 true) rfl 1 (by omega)
  have l3 := hcell 0 (Kt.mk wx0 wy0 true) rfl 2 (by omega)
  simp only [knL, List.getD_cons_succ, List.getD_cons_zero, Nat.add_zero, Nat.zero_mul] at l1 l2 l3
  have hlen0 : (0 : Int) < ((((Kt.mk wx0 wy0 true) :: r0).length : Nat) : Int) := by simp
  have HCU := Lib.hid hcu
  have hl3 : ((Kt.mk wx0 wy0 true) :: r0).length ≤ 3000000 := by simp; omega
  clear hr hcell hcu hlenW
  generalize hw1 : (Kt.mk wx0 wy0 true) :: r0 = W0 at *
  go_upto_region 20 with (at_builtin; refine wpList_append_kn rfl _ _ rfl w.heap.size _ _ rfl (hO.alloc _) _ _ 1 (Kt.mk wx0 wy0 true) rfl (kn_one _ _ rfl _ (Kt.mk wx0 wy0 true)) (by omega) (by have := hS.below.size; simp; omega) ?_; intro v7 w7 hO8 hg7 hb7)
  have hSn : Since w w7 := since_grown (hS.alloc _) hg7 (fun q hq => by have := (hb7 _ hq).1; omega)
  generalize hw2 : W0 ++ [(Kt.mk wx0 wy0 true)] = W at *
  obtain ⟨A7, c7, rfl, hc7, hr7⟩ := hO8.rd (by omega) knL_len
  have hW0 : W[0]? = some (Kt.mk wx0 wy0 true) := by rw [← hw2, ← hw1]; rfl
  have hWl : W.getLast? = some (Kt.mk wx0 wy0 true) := by rw [← hw2]; exact last_snoc _ _
  have hWn : 0 < W.length := by rw [← hw2, List.length_append]; simp
  have hWm : W.length ≤ 3000000 := by rw [← hw2, List.length_append, ← hw1]; simp; omega
  have hWd : cutR (wx0, wy0) [] (W.drop 1) = segsL n X Y O := by rw [← HCU.out, ← hw2, ← hw1]; rfl
  have HWD := Lib.hid hWd
  clear hWd hw1 hw2 hO hS l1 l2 l3 hlen0 hob hlr hl3 hO8 hg7 hb7 hc'
  obtain ⟨g7, o7, rfl, hg7, hcell⟩ := hr7 hWn
  have l1 := hcell 0 (Kt.mk wx0 wy0 true) hW0 0 (by omega)
  have l2 := hcell 0 (Kt.mk wx0 wy0 true) hW0 1 (by omega)
  have l3 := hcell 0 (Kt.mk wx0 wy0 true) hW0 2 (by omega)
  simp only [knL, List.getD_cons_succ, List.getD_cons_zero, Nat.add_zero, Nat.zero_mul] at l1 l2 l3
  have hWnI : (0 : Int) < (W.length : Int) := by omega
  go_upto_region 22 with (go_at_call 49; (with_reducible refine (HP.out _ _ _ _).mono ?_); rintro e w8 ⟨rfl, hS8⟩)
  refine wp_named fun w9 hw9 => ?_
  have rH : Row w9 w8.heap.size 2 (Pf wx0 wy0) := by subst hw9; exact prow w8 _ rfl _ _ _
  have hS9 : Since w8 w9 := by subst hw9; (repeat (first | with_reducible (exact Since.refl _) | with_reducible assumption | with_reducible (refine Since.drew ?_) | with_reducible (refine Since.drewN ?_ _) | with_reducible (refine Since.alloc ?_ _) | (with_reducible (refine Since.setCell ?_ ?_ _); rotate_left; focus (first | (simp; done) | (simp; omega) | omega)) | (with_reducible (refine Since.trans ?_ (by with_reducible assumption)))))
  have hS := hSn.trans hS8
  have hbf := hS8.below.size
  have HC7 := Lib.hid (fun (j : Nat) (k : Kt) (hj : W[j]? = some k) (w' : World) (hs : Since w8 w') => (show w'.cell? ⟨g7, o7 + j * 3, none⟩ = some (.int .i64 k.x) ∧ w'.cell? ⟨g7, o7 + j * 3 + 1, none⟩ = some (.int .i64 k.y) ∧ w'.cell? ⟨g7, o7 + j * 3 + 2, none⟩ = some (.bool k.o) ∧ g7 < w'.heap.size from
    ⟨((hS8.trans hs).1 _ _ hg7).trans (hcell j k hj 0 (by omega)), ((hS8.trans hs).1 _ _ hg7).trans (hcell j k hj 1 (by omega)), ((hS8.trans hs).1 _ _ hg7).trans (hcell j k hj 2 (by omega)), (hS8.trans hs).2.2.1 _ hg7⟩))
  clear hw9 l1 l2 l3 hr7 hcell hSn
  have hww : w.heap.size ≤ w8.heap.size := hS.below.size
  obtain ⟨bf, hbfe⟩ : ∃ bf, bf = w8.heap.size := ⟨_, rfl⟩
  have hbf2 : w8.heap.size ≤ bf := by omega
  rw [← hbfe] at rH hww hbf ⊢
  clear hbfe
  go_upto_block 4 with fail
  go_cut [9] (fun v wx => OwnS wx (bf + 1) v (segsL n X Y O) ∧ Since w8 wx)
  case first =>
    go_wp2_with fail
    go_loopw [9, 11] (fun v y wr => ∃ (i : Nat) (h : Int × Int) (L : List Sg), i ≤ W.length ∧ 1 ≤ i ∧ y = .int .i64 (i : Int) ∧ OwnS wr (bf + 1) v L ∧ Row wr bf 2 (Pf h.1 h.2) ∧ Since w8 wr ∧ L.length ≤ i ∧ cutR h L (W.drop i) = segsL n X Y O) (fun _ y _ => W.length - (intOf y).toNat)
    case atStart => exact ⟨1, (wx0, wy0), [], by omega, by omega, rfl, OwnS.nil _ _, rH, hS9, by simp, HWD.out⟩
    case round =>
      obtain ⟨i, ⟨hx, hy⟩, L, hi, hi1, rfl, hO, rH, hSr, hL, hcR⟩ := hrel
      by_cases hin : i < W.length
      · have hin' : (i : Int) < (W.length : Int) := by omega
        obtain ⟨k, hk⟩ : ∃ k, W[i]? = some k := ⟨_, List.getElem?_eq_getElem hin⟩
        obtain ⟨j, cx, cy, cur, k2, hj, hk2, hstep, hcase⟩ := cut_step (w0 := Kt.mk wx0 wy0 true) rfl hWl hk (hx, hy) L
        rw [hcR] at hstep
        have HSTEP := Lib.hid hstep
        clear hstep hcR
        obtain ⟨h1, h2, h3⟩ := pcells rH
        go_upto_region 26 with fail
        refine wp_named fun w3 hw3 => ?_
        have rS : Row w3 wr.heap.size 7 (Sf ⟨hx, hy, 0, 0, 0, 0, false⟩) := by subst hw3; exact srow wr _ rfl _ ⟨hx, hy, 0, 0, 0, 0, false⟩
        have hS3 : Since wr w3 := by subst hw3; (repeat (first | with_reducible (exact Since.refl _) | with_reducible assumption | with_reducible (refine Since.drew ?_) | with_reducible (refine Since.drewN ?_ _) | with_reducible (refine Since.alloc ?_ _) | (with_reducible (refine Since.setCell ?_ ?_ _); rotate_left; focus (first | (simp; done) | (simp; omega) | omega)) | (with_reducible (refine Since.trans ?_ (by with_reducible assumption)))))
        have hlt : bf < wr.heap.size := rH.2.2
        clear hw3 h1 h2 h3
        have hz3 := hS3.below.size
        obtain ⟨r, hrr⟩ : ∃ r, r = wr.heap.size := ⟨_, rfl⟩
        have hrr2 : wr.heap.size ≤ r := by omega
        have hij : i ≤ j := by rcases hcase with ⟨_, e, _⟩ | ⟨_, e, _⟩ <;> omega
        rw [← hrr] at rS hlt hz3 ⊢
        clear hrr
        have hne : bf ≠ r := by omega
        go_upto_region 26 with fail
        obtain ⟨s1, s2, s3, s4, s5, s6, s7, s8⟩ := scells rS
        simp only at s1 s2 s3 s4 s5 s6 s7
        obtain ⟨c1, c2, c3, c4⟩ := HC7.out i k hk w3 (hSr.trans hS3)
        go_upto_if 132 with fail
        go_cut [11] (fun y wx => y = .int .i64 (j : Int) ∧ Since wr wx ∧ Row wx r 7 (Sf ⟨hx, hy, cx, cy, 0, 0, cur⟩))
        case first =>
          rcases hcase with ⟨ho, rfl, rfl, rfl, rfl⟩ | ⟨ho, rfl, rfl, rfl, rfl⟩
          · rw [ho] at c3 ⊢
            go_wp2_with fail
            go_meet
            exact ⟨rfl, hS3, rS⟩
          · rw [ho] at c3 ⊢
            obtain ⟨kx, ky, ko⟩ := k
            simp only at c1 c2 c3 ho
            clear ho hk
            go_wp2_with (go_at_call 49; (with_reducible refine (HP.out _ _ _ _).mono ?_); rintro e w5 ⟨rfl, hS5⟩; have rS5 := rS.since hS5; clear s1 s2 s3 s4 s5 s6 s7 s8; obtain ⟨s1, s2, s3, s4, s5, s6, s7, s8⟩ := scells rS5; (simp only at s1 s2 s3 s4 s5 s6 s7); have y2 := rS5.2.1 2; have y3 := rS5.2.1 3; have y6 := rS5.2.1 6)
            go_meet
            exact ⟨by go_num, (((hS3.trans hS5).setCell hrr2 _).setCell hrr2 _).setCell hrr2 _, sput6 (sput2 rS5 _ _) _⟩
        obtain ⟨rfl, hWr, rS⟩ := hcut
        clear s1 s2 s3 s4 s5 s6 s7 s8 c1 c2 c3 c4 hcase hS3 hz3
        obtain ⟨s1, s2, s3, s4, s5, s6, s7, s8⟩ := scells rS
        simp only at s1 s2 s3 s4 s5 s6 s7
        obtain ⟨c1, c2, c3, c4⟩ := HC7.out j k2 hk2 wc (hSr.trans hWr)
        obtain ⟨bx, bz, k2o⟩ := k2
        simp only at c1 c2 c3
        have hjI : (j : Int) < (W.length : Int) := by omega
        go_upto_region 30 with (go_at_call 49; (with_reducible refine (HP.out _ _ _ _).mono ?_); rintro e w5 ⟨rfl, hS5⟩; have rS5 := rS.since hS5; clear s1 s2 s3 s4 s5 s6 s7 s8; obtain ⟨s1, s2, s3, s4, s5, s6, s7, s8⟩ := scells rS5; (simp only at s1 s2 s3 s4 s5 s6 s7); have y4 := rS5.2.1 4; have y5 := rS5.2.1 5)
        refine wp_named fun wz hwz => ?_
        have hWz : Since wr wz := by subst hwz; exact ((hWr.trans hS5).setCell hrr2 _).setCell hrr2 _
        have rS6 : Row wz r 7 (Sf ⟨hx, hy, cx, cy, bx, bz, cur⟩) := by subst hwz; exact sput4 rS5 bx bz
        clear hwz s1 s2 s3 s4 s5 s6 s7 s8 y4 y5 c1 c2 c3 c4 rS rS5
        have rH6 := rH.since hWz
        have hO6 := hO.since hWz
        have hS6 := hSr.trans hWz
        obtain ⟨s1, s2, s3, s4, s5, s6, s7, s8⟩ := scells rS6
        simp only at s1 s2 s3 s4 s5 s6 s7
        obtain ⟨h1, h2, h3⟩ := pcells rH6
        have z0 := rH6.2.1 0
        have z1 := rH6.2.1 1
        go_upto_region 31 with fail
        refine wp_named fun wb hwb => ?_
        have hT7 : Since w8 wb := by subst hwb; exact (hS6.setCell hbf2 _).setCell hbf2 _
        have hO7 := (show OwnS wb (bf + 1) _ L by subst hwb; exact hO6.far (by omega) 0 1 (.int .i64 bx) (.int .i64 bz))
        have rH7 : Row wb bf 2 (Pf bx bz) := by subst hwb; exact pput rH6 bx bz
        have rS7 : Row wb r 7 (Sf ⟨hx, hy, cx, cy, bx, bz, cur⟩) := by subst hwb; exact (rS6.far hne 0 _).far hne 1 _
        clear hwb s1 s2 s3 s4 s5 s6 s7 s8 h1 h2 h3 z0 z1 rS6 rH6 hO6 hS6 hWz hWr hSr hS5 rH hO
        obtain ⟨s1, s2, s3, s4, s5, s6, s7, s8⟩ := scells rS7
        simp only at s1 s2 s3 s4 s5 s6 s7
        have hbase : bf + 1 ≤ wb.heap.size := rH7.2.2
        by_cases e1 : hx = bx
        · by_cases e2 : hy = bz
          · subst e1 e2
            cases cur
            · have hE : (!(hx == hx && hy == hy) || (false && !(cx == hx && cy == hy))) = false := by simp
              have HE := Lib.hid hE
              clear hE
              go_wp2_with fail
              go_roundw
              case rel =>
                refine ⟨j + 1, (hx, hy), L, by omega, by omega, by go_num, hO7, rH7, hT7, by omega, ?_⟩
                rw [HSTEP.out]; unfold addS sgOk; simp only [HE.out, if_false, Bool.false_eq_true]
              case measure => simp [intOf]; omega
            · by_cases e4 : hx = cx
              · by_cases e5 : hy = cy
                · subst e4 e5
                  have hE : (!(hx == hx && hy == hy) || (true && !(hx == hx && hy == hy))) = false := by simp
                  have HE := Lib.hid hE
                  clear hE
                  go_wp2_with fail
                  go_roundw
                  case rel =>
                    refine ⟨j + 1, (hx, hy), L, by omega, by omega, by go_num, hO7, rH7, hT7, by omega, ?_⟩
                    rw [HSTEP.out]; unfold addS sgOk; simp only [HE.out, if_false, Bool.false_eq_true]
                  case measure => simp [intOf]; omega
                · subst e4
                  have e6 : (cy == hy) = false := by simp; omega
                  have hE : (!(hx == hx && hy == hy) || (true && !(hx == hx && cy == hy))) = true := by simp [e6]
                  have HE := Lib.hid hE
                  clear hE e5
                  go_wp2_with (at_builtin; refine wpList_append_sg rfl _ _ rfl (bf + 1) _ L rfl (OwnS.alloc hO7 _) _ 1 ⟨hx, hy, hx, cy, hx, hy, true⟩ rfl (seg_new wb _ rfl ⟨hx, hy, hx, cy, hx, hy, true⟩ _) (by omega) (by simp; omega) ?_; intro v7 w7 hO8 hg7 hb7)
                  go_roundw
                  case rel =>
                    refine ⟨j + 1, (hx, hy), L ++ [⟨hx, hy, hx, cy, hx, hy, true⟩], by omega, by omega, by go_num, hO8, ?_, ?_, by rw [List.length_append]; simp; omega, ?_⟩
                    · exact (rH7.alloc _).grownB hg7 (fun e => by have := hb7 _ e; omega)
                    · exact since_grown (hT7.alloc _) hg7 (fun q hq => by have := hb7 _ hq; omega)
                    · rw [HSTEP.out]; unfold addS sgOk; simp only [HE.out, if_true]
                  case measure => simp [intOf]; omega
              · have e6 : (cx == hx) = false := by simp; omega
                have hE : (!(hx == hx && hy == hy) || (true && !(cx == hx && cy == hy))) = true := by simp [e6]
                have HE := Lib.hid hE
                clear hE e4
                go_wp2_with (at_builtin; refine wpList_append_sg rfl _ _ rfl (bf + 1) _ L rfl (OwnS.alloc hO7 _) _ 1 ⟨hx, hy, cx, cy, hx, hy, true⟩ rfl (seg_new wb _ rfl ⟨hx, hy, cx, cy, hx, hy, true⟩ _) (by omega) (by simp; omega) ?_; intro v7 w7 hO8 hg7 hb7)
                go_roundw
                case rel =>
                  refine ⟨j + 1, (hx, hy), L ++ [⟨hx, hy, cx, cy, hx, hy, true⟩], by omega, by omega, by go_num, hO8, ?_, ?_, by rw [List.length_append]; simp; omega, ?_⟩
                  · exact (rH7.alloc _).grownB hg7 (fun e => by have := hb7 _ e; omega)
                  · exact since_grown (hT7.alloc _) hg7 (fun q hq => by have := hb7 _ hq; omega)
                  · rw [HSTEP.out]; unfold addS sgOk; simp only [HE.out, if_true]
                case measure => simp [intOf]; omega
          · subst e1
            have e3 : (hy == bz) = false := by simp [e2]
            have hE : (!(hx == hx && hy == bz) || (cur && !(cx == hx && cy == hy))) = true := by simp [e3]
            have HE := Lib.hid hE
            clear hE
            go_wp2_with (at_builtin; refine wpList_append_sg rfl _ _ rfl (bf + 1) _ L rfl (OwnS.alloc hO7 _) _ 1 ⟨hx, hy, cx, cy, hx, bz, cur⟩ rfl (seg_new wb _ rfl ⟨hx, hy, cx, cy, hx, bz, cur⟩ _) (by omega) (by simp; omega) ?_; intro v7 w7 hO8 hg7 hb7)
            go_roundw
            case rel =>
              refine ⟨j + 1, (hx, bz), L ++ [⟨hx, hy, cx, cy, hx, bz, cur⟩], by omega, by omega, by go_num, hO8, ?_, ?_, by rw [List.length_append]; simp; omega, ?_⟩
              · exact (rH7.alloc _).grownB hg7 (fun e => by have := hb7 _ e; omega)
              · exact since_grown (hT7.alloc _) hg7 (fun q hq => by have := hb7 _ hq; omega)
              · rw [HSTEP.out]; unfold addS sgOk; simp only [HE.out, if_true]
            case measure => simp [intOf]; omega
        · have e3 : (hx == bx) = false := by simp [e1]
          have hE : (!(hx == bx && hy == bz) || (cur && !(cx == hx && cy == hy))) = true := by simp [e3]
          have HE := Lib.hid hE
          clear hE
          go_wp2_with (at_builtin; refine wpList_append_sg rfl _ _ rfl (bf + 1) _ L rfl (OwnS.alloc hO7 _) _ 1 ⟨hx, hy, cx, cy, bx, bz, cur⟩ rfl (seg_new wb _ rfl ⟨hx, hy, cx, cy, bx, bz, cur⟩ _) (by omega) (by simp; omega) ?_; intro v7 w7 hO8 hg7 hb7)
          go_roundw
          case rel =>
            refine ⟨j + 1, (bx, bz), L ++ [⟨hx, hy, cx, cy, bx, bz, cur⟩], by omega, by omega, by go_num, hO8, ?_, ?_, by rw [List.length_append]; simp; omega, ?_⟩
            · exact (rH7.alloc _).grownB hg7 (fun e => by have := hb7 _ e; omega)
            · exact since_grown (hT7.alloc _) hg7 (fun q hq => by have := hb7 _ hq; omega)
            · rw [HSTEP.out]; unfold addS sgOk; simp only [HE.out, if_true]
          case measure => simp [intOf]; omega
      · obtain rfl : i = W.length := by omega
        rw [cut_end] at hcR
        subst hcR
        go_wp2_with fail
        go_meet
        exact ⟨hO, hSr⟩
  obtain ⟨hO, hSx⟩ := hcut
  go_wp2_with fail
  go_ret
  exact ⟨_, bf + 1, rfl, by omega, hO, hS.trans hSx⟩
theorem rf_segs_rd (A : Option Addr) (n c : Nat) (X Y : Nat → Int) (O : Nat → Bool) (w : World) (h : RdK w w.heap.size A n X Y O) (hX : ∀ j, j < n → InP (X j) (Y j)) (hn : n ≤ 1000000) :
    Calls Try.prog 17 #[.slice A n c] w fun e w' => ∃ A' c', e = .returned (.slice A' (segsL n X Y O).length c') ∧ RdS w' w'.heap.size A' (segsL n X Y O) ∧ Since w w' := by
  have hh : Calls Try.prog 17 #[.slice A n c] w (SegsOut w (segsL n X Y O)) := by
    rcases Nat.eq_zero_or_pos n with rfl | hn0
    · exact rf_segs_nil A c X Y O w
    · exact rf_segs_pos A n c X Y O w h hX hn0 hn
  refine hh.mono ?_
  rintro e w' ⟨v, base, rfl, hb, hO, hS⟩
  obtain ⟨A', c', rfl, hc, hr, _⟩ := hO.rd
  exact ⟨A', c', rfl, hr, hS⟩
end Go.Proofs.Ytdbenpncnkfliaa
