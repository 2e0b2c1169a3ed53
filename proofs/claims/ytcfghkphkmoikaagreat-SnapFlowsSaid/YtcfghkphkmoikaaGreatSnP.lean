/-
  Layer 17: 'grouped', walked.
-/
import Derived.Test.YtcfghkphkmoikaaGreatSnO
import Derived.Sort.CutIn
namespace Go.Proofs.YtcfghkphkmoikaaGreat
set_option maxRecDepth 100000
open Go.RowKit Go.Shelf
set_option linter.unusedVariables false
attribute [local go_sem] Oper.semAt_some
def Bxf (b : Bx) (j : Nat) : Value := if j = 0 then .int .i64 b.lx else if j = 1 then .int .i64 b.ly else if j = 2 then .int .i64 b.mx else .int .i64 b.my
theorem wpIn_named {F : Fence} {n : Nat} {P : Program} {c : Code} {Q : Exit → Act → World → Prop} {a : Act} {w : World} (h : ∀ w0, w0 = w → c.wpIn F n P Q a w0) : c.wpIn F n P Q a w := h w rfl
theorem fourB {j : Nat} (h : j < 4) : j = 0 ∨ j = 1 ∨ j = 2 ∨ j = 3 := by omega
theorem bxrow (w : World) (b : Nat) (hb : b = w.heap.size) (t : TypeId) (x : Bx) : Row (w.alloc (.cells #[.int .i64 x.lx, .int .i64 x.ly, .int .i64 x.mx, .int .i64 x.my] t)) b 4 (Bxf x) := by
  subst hb
  refine Row.of_cells fun j hj => ?_
  rcases fourB hj with rfl | rfl | rfl | rfl <;> rfl
theorem bxcells {w : World} {b : Nat} {x : Bx} (h : Row w b 4 (Bxf x)) : w.cell? ⟨b, 0, none⟩ = some (.int .i64 x.lx) ∧ w.cell? ⟨b, 1, none⟩ = some (.int .i64 x.ly) ∧ w.cell? ⟨b, 2, none⟩ = some (.int .i64 x.mx) ∧ w.cell? ⟨b, 3, none⟩ = some (.int .i64 x.my) ∧ b < w.heap.size :=
  ⟨h.1 0 (by omega), h.1 1 (by omega), h.1 2 (by omega), h.1 3 (by omega), h.2.2⟩
theorem bxset {w : World} {b : Nat} {x : Bx} (h : Row w b 4 (Bxf x)) (p q r s : Int) : Row ((((w.setCell ⟨b, 0, none⟩ (.int .i64 p)).setCell ⟨b, 1, none⟩ (.int .i64 q)).setCell ⟨b, 2, none⟩ (.int .i64 r)).setCell ⟨b, 3, none⟩ (.int .i64 s)) b 4 (Bxf ⟨p, q, r, s⟩) := by
  refine ((((h.set 0 _).set 1 _).set 2 _).set 3 _).congr fun j hj => ?_
  rcases fourB hj with rfl | rfl | rfl | rfl <;> rfl
/-- The box of group i. -/
def grI (L : List Bx) (i : Nat) : Bx := uniL ((L.drop (8 * i)).take 8)
theorem grp_eq (L : List Bx) : grp L = (List.range ((L.length + 7) / 8)).map (grI L) := rfl
/-- The box of the first j + 1 of group i. -/
def grJ (L : List Bx) (i j : Nat) : Bx := uniL ((L.drop (8 * i)).take (j + 1))
theorem grJ_zero {L : List Bx} {i : Nat} {s : Bx} (h : L[8 * i]? = some s) : grJ L i 0 = s := by
  obtain ⟨hl, rfl⟩ := List.getElem?_eq_some_iff.1 h
  unfold grJ
  rw [List.drop_eq_getElem_cons hl]; rfl
theorem grJ_succ {L : List Bx} {i j : Nat} {s : Bx} (h : L[8 * i + (j + 1)]? = some s) : grJ L i (j + 1) = uni (grJ L i j) s := by
  have hd : (L.drop (8 * i))[j + 1]? = some s := by rw [List.getElem?_drop]; exact h
  unfold grJ
  rw [List.take_add_one, hd]
  have hl : j + 1 < (L.drop (8 * i)).length := (List.getElem?_eq_some_iff.1 hd).1
  cases hD : L.drop (8 * i) with
  | nil => rw [hD] at hl; simp at hl
  | cons y D => simp [uniL, List.foldl_append]
theorem grJ_all {L : List Bx} {i E : Nat} (h : min 8 (L.length - 8 * i) = E + 1) : grJ L i E = grI L i := by
  unfold grJ grI
  rw [← h, ← List.take_take, List.take_of_length_le (i := L.length - 8 * i) (by simp)]
theorem keeps_since {W W' : World} (h : Since W W') : KeepsOthers W W' := by
  refine ⟨h.below.size, fun j o hj _ => ?_⟩
  rw [h.below.block j (Array.getElem?_eq_some_iff.1 hj).1]; exact hj
/-- Behind the append of a group's box: what the round owes. -/
theorem tail_grp {w W wa w7 : World} {q : Nat} {t e : TypeId} (hte : t ≠ e) {v v' : Value} {tmp : Obj} {k m : Nat} {xs ys : List Value} (hv : Boxed W q t v) (hB : Below q w W) (hN : q + 3 ≤ W.heap.size) (hS : Since W wa)
    (hrow : wa.ownsRow (q + 3) e 4 v k xs) (hg : (wa.alloc tmp).grownBy w7 v.ownBlock) (hown : w7.ownsRow (q + 3) e 4 v' m ys) :
    Boxed w7 q t v ∧ KeepsOthers W (w7.setCell ⟨q, 0, none⟩ v') ∧ KpO q (q + 3) W (w7.setCell ⟨q, 0, none⟩ v') ∧ Boxed (w7.setCell ⟨q, 0, none⟩ v') q t v' ∧ (w7.setCell ⟨q, 0, none⟩ v').ownsRow (q + 3) e 4 v' m ys ∧ Below q w (w7.setCell ⟨q, 0, none⟩ v') ∧ q + 3 ≤ (w7.setCell ⟨q, 0, none⟩ v').heap.size := by
  have hva : Boxed wa q t v := (hS.below.block q hv.lt).trans hv
  have hv7 : Boxed w7 q t v := (hva.alloc tmp).kept hg (hva.not_row hte hrow)
  have hge : ∀ r, v.ownBlock = some r → q + 3 ≤ r ∧ r < wa.heap.size ∧ ∃ cs z, wa.heap[r]? = some (Obj.cells cs e z) := by
    intro r hr
    rcases hrow.2 with ⟨rfl, _⟩ | ⟨g, cap, cur, rfl, hb, hh, _⟩
    · simp [Value.ownBlock] at hr
    · obtain rfl : g = r := by simpa [Value.ownBlock] using hr
      exact ⟨hb, (Array.getElem?_eq_some_iff.1 hh).1, _, _, hh⟩
  have hsz : wa.heap.size ≤ w7.heap.size := by
    have := hg.size
    simp at this
    omega
  have hblk : ∀ b, b < W.heap.size → b ≠ q → v.ownBlock ≠ some b → (w7.setCell ⟨q, 0, none⟩ v').heap[b]? = W.heap[b]? := fun b h1 h2 h3 => by
    rw [Below.heap_setCell _ _ _ b (by show b ≠ q; exact h2)]
    rw [hg.block b (by simp; have := hS.below.size; omega) (fun e => h3 e.symm), Below.heap_alloc _ _ b (Nat.lt_of_lt_of_le h1 hS.below.size)]
    exact hS.below.block b h1
  refine ⟨hv7, ?_, ?_, hv7.set v', hown.kept (grownBy_setCell' w7 q v') (.inr (hv7.not_row hte hown).symm), ?_, ?_⟩
  · refine ((((keeps_since hS).trans (KeepsOthers.alloc wa tmp)).trans (KeepsOthers.of_grownBy hg fun j o ej hj => ?_))).trans (KeepsOthers.setCell _ _ _)
    obtain ⟨_, hlt, cs, z, hh⟩ := hge j ej
    rw [Below.heap_alloc _ _ j hlt, hh] at hj
    cases hj; rfl
  · intro b h1 h2
    exact hblk b (by omega) h2 (fun e => by have := (hge b e).1; omega)
  · refine hB.trans (((hS.below.mono (by omega)).trans (((Below.refl q wa).alloc (by have := hS.below.size; omega) tmp).grown hg (by have := hS.below.size; simp; omega) (fun r e => by have := (hge r e).1; omega))).setCell (p := ⟨q, 0, none⟩) (Nat.le_refl _) v')
  · have := hS.below.size
    rw [World.size_setCell]
    omega
theorem own_size {β : Type} (B N : Nat) : OwnFrom B (fun (_ : β) W => N ≤ W.heap.size) := fun _ _ _ _ hs hg _ => Nat.le_trans hs hg.size
theorem new_bx (w : World) (t : TypeId) (x : Bx) : ∀ j u, (bxE x)[j]? = some u → (w.alloc (.cells #[.int .i64 x.lx, .int .i64 x.ly, .int .i64 x.mx, .int .i64 x.my] t)).cell? (Addr.add ⟨w.heap.size, 0, none⟩ j) = some u := by
  intro j u h
  have hR := bxrow w _ rfl t x
  have hj : j < 4 := by
    have := (List.getElem?_eq_some_iff.1 h).1
    simpa [bxE] using this
  rcases fourB hj with rfl | rfl | rfl | rfl <;> (simp [bxE] at h; subst h; first | exact hR.1 0 (by omega) | exact hR.1 1 (by omega) | exact hR.1 2 (by omega) | exact hR.1 3 (by omega))
/-- What holds between two rounds. -/
def IG {n : Nat} (L : List Bx) (w : World) (pre : List (Ch n)) (W : World) : Prop := (∃ v, Boxed W w.heap.size 128 v ∧ W.ownsRow (w.heap.size + 3) 130 4 v pre.length (cellsG bxE (pre.map fun x : Ch n => grI L x.1)) ∧ True) ∧ Below w.heap.size w W ∧ w.heap.size + 3 ≤ W.heap.size
theorem ig_own {n : Nat} {L : List Bx} {w : World} {B : Nat} (hB : w.heap.size ≤ B) : OwnFrom B (IG (n := n) L w) :=
  OwnFrom.and (Own.from (holdsRow_own (w.heap.size + 3) w.heap.size 128 130 4 (fun pre : List (Ch n) => pre.length) (fun pre => cellsG bxE (pre.map fun x : Ch n => grI L x.1)) (fun _ _ => True)) _) (OwnFrom.and (ownFrom_below (Nat.le_refl _) hB) (own_size _ _))
theorem ig_step {n : Nat} {L : List Bx} {w W : World} {pre : List (Ch n)} (x : Ch n) {v : Value} (h1 : Boxed W w.heap.size 128 v) (h2 : W.ownsRow (w.heap.size + 3) 130 4 v (pre.length + 1) (cellsG bxE (pre.map fun x : Ch n => grI L x.1) ++ bxE (grI L x.1))) (h3 : Below w.heap.size w W) (h4 : w.heap.size + 3 ≤ W.heap.size) : IG L w (pre ++ [x]) W := by
  refine ⟨⟨v, h1, ?_, trivial⟩, h3, h4⟩
  have e1 : cellsG bxE ((pre ++ [x]).map fun x : Ch n => grI L x.1) = cellsG bxE (pre.map fun x : Ch n => grI L x.1) ++ bxE (grI L x.1) := by simp [cellsG]
  have e2 : (pre ++ [x]).length = pre.length + 1 := by simp
  rw [e1, e2]
  exact h2
set_option maxRecDepth 100000 in
set_option maxHeartbeats 8000000 in
theorem sn_grouped (b o n c : Nat) (L : List Bx) (w : World) (hn : n = L.length) (hr : RdG 4 bxE w w.heap.size (some ⟨b, o, none⟩) L) (h1 : 1 < n) (hN : n ≤ 100000000) (hc : n ≤ c) :
    Calls Tryz.prog 70 #[.slice (some ⟨b, o, none⟩) n c] w fun e w' => ∃ v, e = .returned v ∧ OwnG 130 4 bxE w' w.heap.size v (grp L) ∧ Since w w' := by
  refine (callsIn_wide (n := 10)).1 ?_
  have hmin := min2_run
  have hmax := max2_run
  have hfl : b < w.heap.size ∧ ∀ j s, L[j]? = some s → ∀ i, i < 4 → w.cell? ⟨b, o + j * 4 + i, none⟩ = some ((bxE s).getD i undef) := by
    obtain ⟨b', o', e, h2, h3⟩ := hr (by omega)
    injection e with e
    injection e with e1 e2 _
    subst e1 e2
    exact ⟨h2, h3⟩
  obtain ⟨hbw, hcell⟩ := hfl
  have HC := Lib.hid hcell; have HN := Lib.hid hn
  clear hcell hn hr
  refine callsIn_of_wp_marks Tryz.func70 rfl trivial ?_ rfl
  simp only [Tryz.ntmps70, List.size_toArray, List.length_cons, List.length_nil, Nat.reduceAdd, Nat.reduceSub, Array.replicate_succ, Array.replicate_zero, List.push_toArray, List.append_toArray, List.nil_append, List.cons_append]
  gi_wp2_with (refine ⟨trivial, ?_⟩; gi_at_call 102; refine (sn_chunk _ _ _ _ _).mono ?_; rintro e w' ⟨rfl, rfl⟩)
  have bQ := ((Boxed.new w 128 (.slice none 0 0)).alloc (.cells #[.slice (some ⟨b, o, none⟩) n c] 128)).alloc (.cells #[.int .i64 8] 3)
  have bS := (Boxed.new (w.alloc (.cells #[.slice none 0 0] 128)) 128 (.slice (some ⟨b, o, none⟩) n c)).alloc (.cells #[.int .i64 8] 3)
  have bE := Boxed.new ((w.alloc (.cells #[.slice none 0 0] 128)).alloc (.cells #[.slice (some ⟨b, o, none⟩) n c] 128)) 3 (.int .i64 8)
  simp only [World.size_alloc] at bS bE
  have hB0 : Below w.heap.size w (((w.alloc (.cells #[.slice none 0 0] 128)).alloc (.cells #[.slice (some ⟨b, o, none⟩) n c] 128)).alloc (.cells #[.int .i64 8] 3)) := (((Below.refl _ w).alloc (Nat.le_refl _) _).alloc (by simp) _).alloc (by simp; omega) _
  have hsz : (((w.alloc (.cells #[.slice none 0 0] 128)).alloc (.cells #[.slice (some ⟨b, o, none⟩) n c] 128)).alloc (.cells #[.int .i64 8] 3)).heap.size = w.heap.size + 3 := by simp
  obtain ⟨W0, hW0⟩ : ∃ W0, ((w.alloc (.cells #[.slice none 0 0] 128)).alloc (.cells #[.slice (some ⟨b, o, none⟩) n c] 128)).alloc (.cells #[.int .i64 8] 3) = W0 := ⟨_, rfl⟩
  have hwx : w.heap.size + 1 + 1 = w.heap.size + 2 := rfl
  rw [hW0] at bQ bS bE hB0 hsz ⊢
  clear hW0
  refine wpIn_rangeFunc_ownG rfl (by omega) (gf := 132) (lb := #[.pointer (some ⟨w.heap.size + 1, 0, none⟩), .pointer (some ⟨w.heap.size + 1 + 1, 0, none⟩)]) rfl trivial (enters_of Tryz.func132 (by kernel_rfl) rfl)
    (sn_chunk_stops w.heap.size (w.heap.size + 3) (w.heap.size + 1) b o n c (by omega) hc (by omega) (by omega) W0 (by omega) bS.cell bE.cell) KpO.trans (KpO.turn (q := w.heap.size) (n₁ := w.heap.size + 3) (by omega)) (Below.refl _ _) (fun _ => rfl)
    (IG L w) (fun _ _ _ => False) (ig_own (by omega)) (fun _ _ _ _ _ hs _ _ => hs)
    ⟨⟨_, bQ, World.ownsRow_nil _ _ _ _, trivial⟩, hB0, by omega⟩
    (fun x : Ch n => { tmps := #[.slice (some ⟨b, o, none⟩) n c, undef, .slice none 0 0, .pointer (some ⟨w.heap.size, 0, none⟩), .slice (some ⟨b, o + 8 * x.1 * 4, none⟩) (min 8 (n - 8 * x.1)) (min 8 (n - 8 * x.1)), undef, undef, undef, .slice (some ⟨b, o, none⟩) n c, .func (.func 132) #[] #[.pointer (some ⟨w.heap.size + 1, 0, none⟩), .pointer (some ⟨w.heap.size + 2, 0, none⟩)], .slice (some ⟨b, o + 8 * x.1 * 4, none⟩) (min 8 (n - 8 * x.1)) (min 8 (n - 8 * x.1)), undef, undef, undef, undef, undef, undef, undef, undef, undef, undef, undef, undef, undef, undef, undef, undef, undef, undef, undef, undef, undef, undef, undef, undef, undef, undef, undef, undef, undef, undef, undef, undef, undef, undef, undef, undef, undef, undef, undef, undef, undef, undef, undef, undef, undef, undef, undef, undef], defers := [] }) ?assign ?body ?done ?stop
  case assign =>
    intro l x W K hK
    unfold chE
    gi_wp2
    exact hK
  case body =>
    rintro l pre ⟨i, hi⟩ W ⟨⟨v, hv, hrow, _⟩, hB, hBz⟩ hlt
    dsimp only
    have hcv := hv.cell
    have hcl : ∀ j s, 8 * i + j < n → L[8 * i + j]? = some s → ∀ f, f < 4 → W.cell? ⟨b, o + 8 * i * 4 + j * 4 + f, none⟩ = some ((bxE s).getD f undef) := fun j s _ hs f hf => by
      have h := HC.out _ s hs f hf
      rw [show o + (8 * i + j) * 4 + f = o + 8 * i * 4 + j * 4 + f by omega] at h
      exact (hB.cell (p := ⟨b, _, none⟩) hbw).trans h
    have hEn : min 8 (n - 8 * i) ≤ n := by omega
    have hE8 : min 8 (n - 8 * i) ≤ 8 := by omega
    have hE0 : 0 < min 8 (n - 8 * i) := by omega
    have hEi : 8 * i + min 8 (n - 8 * i) ≤ n := by omega
    have hAll : ∀ E, min 8 (n - 8 * i) = E + 1 → grJ L i E = grI L i := fun E h => grJ_all (by rw [← HN.out]; exact h)
    generalize min 8 (n - 8 * i) = E at *
    generalize hoo : o + 8 * i * 4 = oo at *
    have HCL := Lib.hid hcl; have HAll := Lib.hid hAll
    clear hcl hAll hoo
    obtain ⟨s0, hs0⟩ : ∃ s, L[8 * i]? = some s := ⟨_, List.getElem?_eq_getElem (by rw [← HN.out]; omega)⟩
    have HS0 := Lib.hid hs0
    have c0 := HCL.out 0 s0 (by omega) hs0 0 (by omega)
    have c1 := HCL.out 0 s0 (by omega) hs0 1 (by omega)
    have c2 := HCL.out 0 s0 (by omega) hs0 2 (by omega)
    have c3 := HCL.out 0 s0 (by omega) hs0 3 (by omega)
    simp only [bxE, List.getD_cons_succ, List.getD_cons_zero, Nat.zero_mul, Nat.add_zero] at c0 c1 c2 c3
    have hbW : b < W.heap.size := by have := hB.size; omega
    have hE1 : E ≠ 0 := by omega
    clear hs0
    gi_upto_region 5 with fail
    refine wpIn_named fun wa hwa => ?_
    have hS0 : Since W wa := by subst hwa; exact (Since.refl W).alloc _
    have hR0 : Row wa W.heap.size 4 (Bxf (grJ L i 0)) := by subst hwa; rw [grJ_zero HS0.out]; exact bxrow W _ rfl _ s0
    clear hwa c0 c1 c2 c3 HS0
    obtain ⟨M, rfl⟩ : ∃ M, E = M + 1 := ⟨E - 1, by omega⟩
    have HSz := Lib.hid (⟨_, rfl⟩ : ∃ q, q = W.heap.size)
    rcases Nat.eq_zero_or_pos M with hM0 | hM0
    · subst hM0
      gi_upto_region 6 with fail
      gi_loopw [17] (fun y wr => y = .int .i64 0 ∧ wr = wa) (fun _ _ => 0)
      case atStart => exact ⟨rfl, rfl⟩
      case round =>
        obtain ⟨rfl, rfl⟩ := hrel
        gi_upto_region 11 with fail
        have hAll := HAll.out _ rfl
        have hOwW : wr.ownsRow (w.heap.size + 3) 130 4 v pre.length (cellsG bxE (pre.map fun x : Ch n => grI L x.1)) := by
          have h0 : OwnG 130 4 bxE W (w.heap.size + 3) v (pre.map fun x : Ch n => grI L x.1) := by unfold OwnG; rw [List.length_map]; exact hrow
          have h1 := h0.since hS0
          unfold OwnG at h1
          rw [List.length_map] at h1
          exact h1
        have hQW : Boxed wr w.heap.size 128 v := (hS0.below.block _ hv.lt).trans hv
        have hcQ := hQW.cell
        rw [hAll] at hR0
        obtain ⟨x0, x1, x2, x3, x4⟩ := bxcells hR0
        have hsW := hS0.below.size
        obtain ⟨i0, z0, hi0, hz0, hz1, hz2, hz3⟩ := infoBx
        have hpl : pre.length < (n + 7) / 8 := hlt
        gi_wp2_with (gi_at_builtin; refine wpListIn_append_own _ rfl _ _ 128 rfl (w.heap.size + 3) 130 i0 z0 4 32 Tryz.underlying128 hi0 hz0 hz1 hz2 hz3 (by decide) v _ _ rfl (hOwW.alloc _) ⟨wr.heap.size, 0, none⟩ 1 1 (bxE (grI L i)) rfl rfl (new_bx wr _ (grI L i)) (bxE_one _) (by unfold maxLen; omega) (by omega) (by simp; omega) ?_; intro v' w7 hO7 hg7 _; obtain ⟨g', cap', rfl⟩ := ownsRow_succ hO7; obtain ⟨t1, t2, t3, t4, t5, t6, t7⟩ := tail_grp (by decide) hv hB hBz hS0 hOwW hg7 hO7; have hc7 := t1.cell; have hf7 := t1.frozen)
        exact ⟨t2.from _, t3, ig_step ⟨i, hi⟩ t4 t5 t6 t7⟩
    · gi_upto_region 6 with fail
      gi_loopw [17] (fun y wr => ∃ j : Nat, j ≤ M ∧ y = .int .i64 (j : Int) ∧ Since W wr ∧ Row wr W.heap.size 4 (Bxf (grJ L i j))) (fun y _ => M - (intOf y).toNat)
      case atStart => exact ⟨0, by omega, rfl, hS0, hR0⟩
      case round =>
        obtain ⟨j, hj, rfl, hSr, hRr⟩ := hrel
        have hsr := hSr.below.size
        by_cases hjM : j < M
        · have hjM' : (j : Int) < M := by omega
          obtain ⟨s, hs⟩ : ∃ s, L[8 * i + (j + 1)]? = some s := ⟨_, List.getElem?_eq_getElem (by rw [← HN.out]; omega)⟩
          have d0 := (hSr.1 _ _ hbW).trans (HCL.out (j + 1) s (by omega) hs 0 (by omega))
          have d1 := (hSr.1 _ _ hbW).trans (HCL.out (j + 1) s (by omega) hs 1 (by omega))
          have d2 := (hSr.1 _ _ hbW).trans (HCL.out (j + 1) s (by omega) hs 2 (by omega))
          have d3 := (hSr.1 _ _ hbW).trans (HCL.out (j + 1) s (by omega) hs 3 (by omega))
          rw [show oo + (j + 1) * 4 = oo + 4 + j * 4 by omega] at d0 d1 d2 d3
          simp only [bxE, List.getD_cons_succ, List.getD_cons_zero, Nat.add_zero] at d0 d1 d2 d3
          have HG := Lib.hid (grJ_succ hs)
          obtain ⟨x0, x1, x2, x3, x4⟩ := bxcells hRr
          gi_upto_region 8 with fail
          refine wpIn_named fun wb hwb => ?_
          have hRb : Row wb W.heap.size 4 (Bxf (grJ L i j)) := by subst hwb; exact hRr.alloc _
          have hXb : Row wb wr.heap.size 4 (Bxf s) := by subst hwb; exact bxrow wr _ rfl _ s
          have hSb : Since W wb := by subst hwb; exact hSr.alloc _
          clear hwb x0 x1 x2 x3 x4 d0 d1 d2 d3
          have hbx : W.heap.size ≠ wr.heap.size := by have := hRr.2.2; omega
          generalize wr.heap.size = bx at *
          obtain ⟨x0, x1, x2, x3, x4⟩ := bxcells hRb
          obtain ⟨y0, y1, y2, y3, y4⟩ := bxcells hXb
          have f0 := hRb.2.1 0
          have f1 := hRb.2.1 1
          have f2 := hRb.2.1 2
          have f3 := hRb.2.1 3
          have hu : grJ L i (j + 1) = ⟨lo2 (grJ L i j).lx s.lx, lo2 (grJ L i j).ly s.ly, hi2 (grJ L i j).mx s.mx, hi2 (grJ L i j).my s.my⟩ := by rw [HG.out]; unfold uni; simp only [lo2_min, hi2_max]
          have HU := Lib.hid hu
          clear hu
          gi_wp2
          go_roundw
          case rel => exact ⟨j + 1, by omega, by go_num, (((hSb.setCell (p := ⟨W.heap.size, 0, none⟩) (Nat.le_refl _) _).setCell (p := ⟨W.heap.size, 1, none⟩) (Nat.le_refl _) _).setCell (p := ⟨W.heap.size, 2, none⟩) (Nat.le_refl _) _).setCell (p := ⟨W.heap.size, 3, none⟩) (Nat.le_refl _) _, by rw [HU.out]; exact bxset hRb _ _ _ _⟩
          case measure => (simp only [intOf]; omega)
        · obtain rfl : j = M := by omega
          have hjM' : ¬ (j : Int) < j := by omega
          gi_upto_region 11 with fail
          have hAll := HAll.out _ rfl
          have hOwW : wr.ownsRow (w.heap.size + 3) 130 4 v pre.length (cellsG bxE (pre.map fun x : Ch n => grI L x.1)) := by
            have h0 : OwnG 130 4 bxE W (w.heap.size + 3) v (pre.map fun x : Ch n => grI L x.1) := by unfold OwnG; rw [List.length_map]; exact hrow
            have h1 := h0.since hSr
            unfold OwnG at h1
            rw [List.length_map] at h1
            exact h1
          have hQW : Boxed wr w.heap.size 128 v := (hSr.below.block _ hv.lt).trans hv
          have hcQ := hQW.cell
          rw [hAll] at hRr
          obtain ⟨x0, x1, x2, x3, x4⟩ := bxcells hRr
          have hsW := hSr.below.size
          obtain ⟨i0, z0, hi0, hz0, hz1, hz2, hz3⟩ := infoBx
          have hpl : pre.length < (n + 7) / 8 := hlt
          gi_wp2_with (gi_at_builtin; refine wpListIn_append_own _ rfl _ _ 128 rfl (w.heap.size + 3) 130 i0 z0 4 32 Tryz.underlying128 hi0 hz0 hz1 hz2 hz3 (by decide) v _ _ rfl (hOwW.alloc _) ⟨wr.heap.size, 0, none⟩ 1 1 (bxE (grI L i)) rfl rfl (new_bx wr _ (grI L i)) (bxE_one _) (by unfold maxLen; omega) (by omega) (by simp; omega) ?_; intro v' w7 hO7 hg7 _; obtain ⟨g', cap', rfl⟩ := ownsRow_succ hO7; obtain ⟨t1, t2, t3, t4, t5, t6, t7⟩ := tail_grp (by decide) hv hB hBz hSr hOwW hg7 hO7; have hc7 := t1.cell; have hf7 := t1.frozen)
          exact ⟨t2.from _, t3, ig_step ⟨i, hi⟩ t4 t5 t6 t7⟩
  case done =>
    rintro D ys W hD hys ⟨⟨v, hv, hrow, _⟩, hB, _⟩ hK
    have hc := hv.cell
    gi_wp2
    refine ⟨by simp, .inl ⟨_, _, rfl, run_takeDeferred hK, ?_⟩⟩
    have hg : ys.map (fun x : Ch n => grI L x.1) = grp L := by rw [grp_eq, ← HN.out, ← hys, List.map_map]; rfl
    have hOw : OwnG 130 4 bxE W (w.heap.size + 3) v (grp L) := by
      unfold OwnG
      rw [hg] at hrow
      rw [← hg, List.length_map]
      rw [hg]
      exact hrow
    exact ⟨_, results_tmp rfl _ _ _, v, rfl, OwnG.lower' (ownsRow_putObj hOw _ hK rfl) (by omega), since_of (hB.trans (belowK_b (w := w) (Nat.le_refl _) W D _ _ (by omega) hK rfl rfl))⟩
  case stop =>
    rintro D c pre W _ _ h _
    exact h.elim
end Go.Proofs.YtcfghkphkmoikaaGreat
