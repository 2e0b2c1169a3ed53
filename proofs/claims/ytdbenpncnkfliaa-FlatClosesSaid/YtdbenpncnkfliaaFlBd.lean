/-
  Texts of this seat, put together: each with its own head.
-/
import Derived.Test.YtdbenpncnkfliaaFlBc

/-
  Layer 14: the function that 'way' hands to 'walk', walked.
-/
namespace Go.Proofs.Ytdbenpncnkfliaa
open Go.RowKit Go.ChangeShapes Go.WideShapes Go.Deep
set_option linter.unusedVariables false

/-- A line. -/
structure Lq where
  (ax ay bx bz : Int)
def lnL (l : Lq) : List Value := [.int .i64 l.ax, .int .i64 l.ay, .int .i64 l.bx, .int .i64 l.bz]
theorem lnL_len (p : Lq) : (lnL p).length = 4 := rfl
theorem lnL_one (p : Lq) : ∀ u ∈ lnL p, u.oneCell' = true := by
  intro u hu
  simp only [lnL, List.mem_cons, List.not_mem_nil, or_false] at hu
  rcases hu with rfl | rfl | rfl | rfl <;> rfl
theorem infoLn0 : (Try.prog.info? 67).map (fun i => (i.zero, i.size, i.bytes)) = some (some (.agg #[.int .i64 0, .int .i64 0, .int .i64 0, .int .i64 0]), 4, 32) := by kernel_rfl
theorem infoLn : ∃ i z, Try.prog.info? 67 = some i ∧ i.zero = some z ∧ i.size = 4 ∧ i.bytes = 32 ∧ z.cells.size = 4 := by
  obtain ⟨i0, hi, hz0, hz1, hz2⟩ := info_parts infoLn0
  exact ⟨i0, _, hi, hz0, hz1, hz2, rfl⟩
theorem ln_one (w : World) (b : Nat) (hb : b = w.heap.size) (ty : TypeId) (p : Lq) : RdG 4 lnL (w.alloc (.cells #[.int .i64 p.ax, .int .i64 p.ay, .int .i64 p.bx, .int .i64 p.bz] ty)) (w.alloc (.cells #[.int .i64 p.ax, .int .i64 p.ay, .int .i64 p.bx, .int .i64 p.bz] ty)).heap.size (some ⟨b, 0, none⟩) [p] :=
  rdG_one hb p (fun i hi => by
    have h : i = 0 ∨ i = 1 ∨ i = 2 ∨ i = 3 := by omega
    rcases h with rfl | rfl | rfl | rfl <;> rfl)
/-- What a point adds to the lines, and where the way stands after it. -/
def addL (L : List Lq) (h p : Pq) : List Lq := if h.x == p.x && h.y == p.y then L else L ++ [⟨h.x, h.y, p.x, p.y⟩]
/-- A captured list of lines, and a captured point. -/
def CapL (w0 ws w : World) (bl bh : Nat) (L : List Lq) (h : Pq) : Prop := ∃ v, w.heap[bl]? = some (Obj.cells #[v] 57 (0, 0)) ∧ w.heap[bh]? = some (Obj.cells #[.int .i64 h.x, .int .i64 h.y] 33 (0, 0)) ∧ OwnG 67 4 lnL w (bl + 1) v L ∧ Since w0 w ∧ w0.heap.size ≤ bl ∧ w0.heap.size ≤ bh ∧
  ∀ (b : Nat) (cs : Array Value), ws.heap[b]? = some (Obj.cells cs 37 (0, 0)) → w.heap[b]? = some (Obj.cells cs 37 (0, 0))
theorem lt_of_heap {w : World} {b : Nat} {o : Obj} (h : w.heap[b]? = some o) : b < w.heap.size := by
  rcases Nat.lt_or_ge b w.heap.size with k | k
  · exact k
  · rw [Array.getElem?_eq_none k] at h; cases h
theorem CapL.since {w0 ws w w' : World} {bl bh : Nat} {L : List Lq} {h : Pq} (hc : CapL w0 ws w bl bh L h) (k : Since w w') : CapL w0 ws w' bl bh L h := by
  obtain ⟨v, h1, h2, h3, h4, h5, h6, h7⟩ := hc
  exact ⟨v, (k.below.block bl (lt_of_heap h1)).trans h1, (k.below.block bh (lt_of_heap h2)).trans h2, h3.since k, h4.trans k, h5, h6, fun b cs hb => (k.below.block b (lt_of_heap (h7 b cs hb))).trans (h7 b cs hb)⟩
theorem capL_set {w0 ws w : World} {bl bh : Nat} {L : List Lq} {v : Value} {cs : Array Value} {x y : Int} (h1 : w.heap[bl]? = some (Obj.cells #[v] 57 (0, 0))) (h2 : w.heap[bh]? = some (Obj.cells cs 33 (0, 0))) (hcs : cs.size = 2) (hO : OwnG 67 4 lnL w (bl + 1) v L) (hS : Since w0 w) (hb1 : w0.heap.size ≤ bl) (hb2 : w0.heap.size ≤ bh)
    (hK : ∀ (b : Nat) (cs : Array Value), ws.heap[b]? = some (Obj.cells cs 37 (0, 0)) → w.heap[b]? = some (Obj.cells cs 37 (0, 0))) :
    CapL w0 ws ((w.setCell ⟨bh, 0, none⟩ (.int .i64 x)).setCell ⟨bh, 1, none⟩ (.int .i64 y)) bl bh L ⟨x, y⟩ := by
  have hne : bl ≠ bh := fun e => by rw [e, h2] at h1; simp at h1
  have hoth : ∀ b, b ≠ bh → ((w.setCell ⟨bh, 0, none⟩ (.int .i64 x)).setCell ⟨bh, 1, none⟩ (.int .i64 y)).heap[b]? = w.heap[b]? := fun b hb => (heap_setCell_other _ _ _ _ hb).trans (heap_setCell_other _ _ _ _ hb)
  have hvb : v.ownBlock ≠ some bh := hO.ne (by decide) h2
  refine ⟨v, (hoth bl hne).trans h1, ?_, ?_, (hS.setCell hb2 _).setCell hb2 _, hb1, hb2, fun b cs' hb => ?_⟩
  · have k := heap_setCell_same _ bh 1 _ _ (.int .i64 y) (heap_setCell_same w bh 0 _ _ (.int .i64 x) h2)
    rw [k]
    obtain ⟨l⟩ := cs
    match l, hcs with
    | [a, b], _ => rfl
  · refine ⟨hO.1, ?_⟩
    rcases hO.2 with h0 | ⟨g, cap, cur, e1, hb', hh, r⟩
    · exact .inl h0
    · refine .inr ⟨g, cap, cur, e1, hb', ?_, r⟩
      rw [hoth g (fun e => by subst e1; exact hvb (by simp [Value.ownBlock, e]))]
      exact hh
  · have k := hK b cs' hb
    exact (hoth b (fun e => by rw [e, h2] at k; simp at k)).trans k
set_option maxRecDepth 100000 in
set_option maxHeartbeats 8000000 in
theorem fa_way1 (w0 ws : World) (bl bh : Nat) (L : List Lq) (h p : Pq) (w : World) (hC : CapL w0 ws w bl bh L h) (hL : L.length ≤ 1000000) :
    Calls Try.prog 64 #[Pt p.x p.y, .pointer (some ⟨bh, 0, none⟩), .pointer (some ⟨bl, 0, none⟩)] w fun e w2 => (∃ v, e = .returned v) ∧ CapL w0 ws w2 bl bh (addL L h p) p := by
  obtain ⟨v, h1, h2, hO, hS, hb1, hb2, hK⟩ := hC
  obtain ⟨x, y⟩ := p
  obtain ⟨hx, hy⟩ := h
  unfold Pt
  simp only at h2 ⊢
  have hlt := lt_of_heap h1
  have hlh := lt_of_heap h2
  have hne : bl ≠ bh := fun e => by rw [e, h2] at h1; simp at h1
  go_enter Try.func64, Try.ntmps64
  go_upto_region 1 with fail
  refine wp_named fun w2 hw2 => ?_
  have hS2 : Since w w2 := by subst hw2; exact (Since.refl w).alloc _
  have rB : Row w2 w.heap.size 2 (Pf x y) := by subst hw2; exact prow w _ rfl _ _ _
  have k1 := (hS2.below.block bl hlt).trans h1
  have k2 := (hS2.below.block bh hlh).trans h2
  have hO2 := hO.since hS2
  have hK2 : ∀ (b : Nat) (cs : Array Value), ws.heap[b]? = some (Obj.cells cs 37 (0, 0)) → w2.heap[b]? = some (Obj.cells cs 37 (0, 0)) := fun b cs hb => (hS2.below.block b (lt_of_heap (hK b cs hb))).trans (hK b cs hb)
  have hS3 := hS.trans hS2
  have HO1 := Lib.hid hO
  clear hw2 hO hK h1 h2 hS
  obtain ⟨q, hq⟩ : ∃ q, q = w.heap.size := ⟨_, rfl⟩
  rw [← hq] at rB hlt hlh ⊢
  have hbq : bl ≠ q := by omega
  have hhq : bh ≠ q := by omega
  have hvq : ∀ g, v.ownBlock = some g → g < q := fun g hg => by rw [hq]; exact (HO1.out.lt hg).2
  clear hq hS2 HO1
  obtain ⟨b1, b2, b3⟩ := pcells rB
  have cB : w2.cell? ⟨bl, 0, none⟩ = some v := by simp [World.cell?, k1]
  have fB : w2.frozen? ⟨bl, 0, none⟩ = false := by simp [World.frozen?, k1]
  have g1 : w2.cell? ⟨bh, 0, none⟩ = some (.int .i64 hx) := by simp [World.cell?, k2]
  have g2 : w2.cell? ⟨bh, 1, none⟩ = some (.int .i64 hy) := by simp [World.cell?, k2]
  have fH : w2.frozen? ⟨bh, 0, none⟩ = false := by simp [World.frozen?, k2]
  have fH1 : w2.frozen? ⟨bh, 1, none⟩ = false := by simp [World.frozen?, k2]
  have K1 := Lib.hid k1
  have K2 := Lib.hid k2
  have HO := Lib.hid hO2
  have HS := Lib.hid hS3
  have HK := Lib.hid hK2
  clear k1 k2 hO2 hS3 hK2
  by_cases e : hx = x ∧ hy = y
  · have he : addL L ⟨hx, hy⟩ ⟨x, y⟩ = L := by unfold addL; simp [e.1, e.2]
    have HE := Lib.hid he
    clear he
    obtain ⟨rfl, rfl⟩ := e
    go_wp2_with fail
    refine bodyPost_end (results_none rfl _ _ _) rfl ?_
    rw [HE.out]
    exact ⟨⟨_, rfl⟩, capL_set K1.out K2.out rfl HO.out HS.out hb1 hb2 HK.out⟩
  · have he : addL L ⟨hx, hy⟩ ⟨x, y⟩ = L ++ [⟨hx, hy, x, y⟩] := by
      unfold addL
      rw [if_neg (by simpa using e)]
    have HE := Lib.hid he
    clear he
    obtain ⟨A, c, rfl, hc, hr⟩ := HO.out.rd (by omega) lnL_len
    have hvh : (Value.slice A L.length c).ownBlock ≠ some bh := HO.out.ne (by decide) K2.out
    have HVH := Lib.hid hvh
    have HVQ := Lib.hid hvq
    have hl2 := lt_of_heap K1.out
    have hh2 := lt_of_heap K2.out
    clear hvh hvq hr
    have key : ∀ v7 w7, OwnG 67 4 lnL w7 (bl + 1) v7 (L ++ [⟨hx, hy, x, y⟩]) → (w2.alloc (.cells #[.int .i64 hx, .int .i64 hy, .int .i64 x, .int .i64 y] 67)).grownBy w7 (Value.slice A L.length c).ownBlock → (∀ q1, (Value.slice A L.length c).ownBlock = some q1 → bl + 1 ≤ q1) →
        (w7.cell? ⟨q, 0, none⟩ = some (.int .i64 x) ∧ w7.cell? ⟨q, 1, none⟩ = some (.int .i64 y) ∧ w7.cell? ⟨bl, 0, none⟩ = some (.slice A L.length c) ∧ w7.frozen? ⟨bl, 0, none⟩ = false ∧ w7.cell? ⟨bh, 0, none⟩ = some (.int .i64 hx) ∧ w7.cell? ⟨bh, 1, none⟩ = some (.int .i64 hy) ∧ w7.frozen? ⟨bh, 0, none⟩ = false ∧ w7.frozen? ⟨bh, 1, none⟩ = false) ∧
        CapL w0 ws (((w7.setCell ⟨bl, 0, none⟩ v7).setCell ⟨bh, 0, none⟩ (.int .i64 x)).setCell ⟨bh, 1, none⟩ (.int .i64 y)) bl bh (L ++ [⟨hx, hy, x, y⟩]) ⟨x, y⟩ := by
      intro v7 w7 hO7 hg7 hb7
      have hk : ∀ b, b < w2.heap.size → (Value.slice A L.length c).ownBlock ≠ some b → w7.heap[b]? = w2.heap[b]? := fun b hb1 hb2 =>
        (hg7.block b (by simp; omega) (fun e => hb2 e.symm)).trans (((Since.refl w2).alloc (.cells #[.int .i64 hx, .int .i64 hy, .int .i64 x, .int .i64 y] 67)).below.block b hb1)
      have m1 := (hk bl hl2 (fun e => by have := hb7 _ e; omega)).trans K1.out
      have m2 := (hk bh hh2 HVH.out).trans K2.out
      have mq := hk q b3 (fun e => by have := HVQ.out _ e; omega)
      have n1 := heap_setCell_same w7 bl 0 _ _ v7 m1
      have n2 := (heap_setCell_other w7 ⟨bl, 0, none⟩ bh v7 (fun e => hne e.symm)).trans m2
      refine ⟨⟨?_, ?_, by simp [World.cell?, m1], by simp [World.frozen?, m1], by simp [World.cell?, m2], by simp [World.cell?, m2], by simp [World.frozen?, m2], by simp [World.frozen?, m2]⟩, ?_⟩
      · rw [← b1]; simp only [World.cell?, mq]
      · rw [← b2]; simp only [World.cell?, mq]
      refine capL_set n1 n2 rfl (hO7.keep fun b h1 h2 => heap_setCell_other _ _ _ _ (by simp only; omega)) ((since_grown (HS.out.alloc _) hg7 (fun k e => by have := hb7 k e; omega)).setCell hb1 _) hb1 hb2 (fun b cs hb => ?_)
      have hb3 := HK.out b cs hb
      have hbn : b ≠ bl := fun e => by rw [e, K1.out] at hb3; simp at hb3
      exact (heap_setCell_other _ _ _ _ hbn).trans ((hk b (lt_of_heap hb3) (HO.out.ne (by decide) hb3)).trans hb3)
    have KEY := Lib.hid key
    clear key
    by_cases e1 : hx = x
    · have e3 : (hy == y) = false := by simp; exact fun h => e ⟨e1, h⟩
      have e4 : (y == hy) = false := by simp; exact fun h => e ⟨e1, h.symm⟩
      have e5 : y ≠ hy := fun h => e ⟨e1, h.symm⟩
      subst e1
      clear e
      go_wp2_with (at_builtin; refine wpList_append_g rfl _ _ 57 67 rfl (by omega) lnL_len lnL_one 32 Try.underlying57 infoLn (bl + 1) _ L rfl (OwnG.alloc HO.out _) _ _ 1 [⟨hx, hy, hx, y⟩] rfl (ln_one w2 _ rfl _ ⟨hx, hy, hx, y⟩) (by simp only [List.length_cons, List.length_nil]; omega) (by simp only [List.length_cons, List.length_nil, maxLen]; omega) (by simp; omega) ?_; intro v7 w7 hO7 hg7 hb7; obtain ⟨⟨z1, z2, z3, z4, z5, z6, z7, z8⟩, hZ⟩ := KEY.out v7 w7 hO7 hg7 (fun q1 e => (hb7 q1 e).1); obtain ⟨A7, c7, rfl, hc7, hr7⟩ := hO7.rd (by omega) lnL_len; clear hO7 hg7 hb7 hr7)
      refine bodyPost_end (results_none rfl _ _ _) rfl ?_
      rw [HE.out]
      simp only [List.length_append, List.length_cons, List.length_nil, Nat.zero_add] at hZ
      exact ⟨⟨_, rfl⟩, hZ⟩
    · have e3 : (hx == x) = false := by simp [e1]
      have e4 : (x == hx) = false := by simp; exact fun h => e1 h.symm
      have e5 : x ≠ hx := fun h => e1 h.symm
      clear e e1
      go_wp2_with (at_builtin; refine wpList_append_g rfl _ _ 57 67 rfl (by omega) lnL_len lnL_one 32 Try.underlying57 infoLn (bl + 1) _ L rfl (OwnG.alloc HO.out _) _ _ 1 [⟨hx, hy, x, y⟩] rfl (ln_one w2 _ rfl _ ⟨hx, hy, x, y⟩) (by simp only [List.length_cons, List.length_nil]; omega) (by simp only [List.length_cons, List.length_nil, maxLen]; omega) (by simp; omega) ?_; intro v7 w7 hO7 hg7 hb7; obtain ⟨⟨z1, z2, z3, z4, z5, z6, z7, z8⟩, hZ⟩ := KEY.out v7 w7 hO7 hg7 (fun q1 e => (hb7 q1 e).1); obtain ⟨A7, c7, rfl, hc7, hr7⟩ := hO7.rd (by omega) lnL_len; clear hO7 hg7 hb7 hr7)
      refine bodyPost_end (results_none rfl _ _ _) rfl ?_
      rw [HE.out]
      simp only [List.length_append, List.length_cons, List.length_nil, Nat.zero_add] at hZ
      exact ⟨⟨_, rfl⟩, hZ⟩
end Go.Proofs.Ytdbenpncnkfliaa

/-
  Layer 11: middles, program and reference, walked.
-/
namespace Go.Proofs.Ytdbenpncnkfliaa
open Go.RowKit
set_option linter.unusedVariables false

theorem nat_xor_and : ∀ (x y : Nat), x + y = (x ^^^ y) + 2 * (x &&& y) := by
  intro x
  induction x using Nat.strongRecOn with
  | _ x ih =>
    intro y
    by_cases hx : x = 0
    · subst hx; simp
    · have h := ih (x / 2) (by omega) (y / 2)
      have e1 : (x ^^^ y) / 2 = x / 2 ^^^ y / 2 := Nat.xor_div_two
      have e2 : (x &&& y) / 2 = x / 2 &&& y / 2 := Nat.and_div_two
      have e3 : (x ^^^ y) % 2 = (x % 2) ^^^ (y % 2) := Nat.xor_mod_two_pow (n := 1)
      have e4 : (x &&& y) % 2 = (x % 2) &&& (y % 2) := Nat.and_mod_two_pow (n := 1)
      rw [← e1, ← e2] at h
      clear e1 e2
      have hx2 : x % 2 = 0 ∨ x % 2 = 1 := by omega
      have hy2 : y % 2 = 0 ∨ y % 2 = 1 := by omega
      rcases hx2 with h1 | h1 <;> rcases hy2 with h2 | h2 <;> rw [h1, h2] at e3 e4 <;> simp only [Nat.reduceXor, Nat.reduceAnd] at e3 e4 <;> omega
theorem toInt_sum (A B : BitVec 64) : A.toInt + B.toInt = (A ^^^ B).toInt + 2 * (A &&& B).toInt := by
  have h := nat_xor_and (A.signExtend 66).toNat (B.signExtend 66).toNat
  rw [← BitVec.toNat_xor, ← BitVec.toNat_and, ← BitVec.signExtend_xor, ← BitVec.signExtend_and] at h
  have k : ∀ C : BitVec 64, ((C.signExtend 66).toNat : Int) = C.toInt ∨ ((C.signExtend 66).toNat : Int) = C.toInt + 73786976294838206464 := fun C => by
    have e := BitVec.toInt_signExtend_of_le (x := C) (v := 66) (by omega)
    rw [← e, BitVec.toInt_eq_toNat_cond]
    split <;> omega
  have r : ∀ C : BitVec 64, -9223372036854775808 ≤ C.toInt ∧ C.toInt < 9223372036854775808 := fun C => by
    have h1 := BitVec.le_toInt C; have h2 := BitVec.toInt_lt (x := C)
    simp at h1 h2
    omega
  have kA := k A; have kB := k B; have kX := k (A ^^^ B); have kN := k (A &&& B)
  have rA := r A; have rB := r B; have rX := r (A ^^^ B); have rN := r (A &&& B)
  omega
theorem wrap_toInt (X : BitVec 64) : IntKind.i64.wrap (X.toNat : Int) = X.toInt := by
  rw [IntKind.wrap_i64, BitVec.toInt_eq_toNat_cond]
  have := X.isLt
  split <;> omega
theorem toInt_of {a : Int} (h : In64 a) : (BitVec.ofInt 64 a).toInt = a := by
  rw [BitVec.toInt_ofInt]
  unfold In64 at h
  rw [Int.bmod_def]
  split <;> omega
theorem mid_bits {a b : Int} (ha : In64 a) (hb : In64 b) : a + b = bits .xor .i64 a b + 2 * bits .and .i64 a b ∧ In64 (bits .xor .i64 a b) ∧ In64 (bits .and .i64 a b) := by
  have e1 : bits .xor .i64 a b = (BitVec.ofInt 64 a ^^^ BitVec.ofInt 64 b).toInt := wrap_toInt _
  have e2 : bits .and .i64 a b = (BitVec.ofInt 64 a &&& BitVec.ofInt 64 b).toInt := wrap_toInt _
  have h := toInt_sum (BitVec.ofInt 64 a) (BitVec.ofInt 64 b)
  rw [toInt_of ha, toInt_of hb] at h
  have r : ∀ C : BitVec 64, In64 C.toInt := fun C => by
    have h1 := BitVec.le_toInt C; have h2 := BitVec.toInt_lt (x := C)
    unfold In64
    simp at h1 h2
    omega
  rw [e1, e2]
  exact ⟨h, r _, r _⟩
set_option maxRecDepth 100000 in
theorem ou_middle (a b : Int) (ha : In64 a) (hb : In64 b) (w : World) :
    Calls Try.prog 50 #[.int .i64 a, .int .i64 b] w fun e w' => e = .returned (.int .i64 ((a + b) / 2)) ∧ Since w w' := by
  obtain ⟨h1, h2, h3⟩ := mid_bits ha hb
  unfold In64 at *
  have w1 : IntKind.i64.wrap (bits .xor .i64 a b / 2) = bits .xor .i64 a b / 2 := IntWalk.i64_in _ (by omega)
  have w2 : IntKind.i64.wrap (bits .and .i64 a b + bits .xor .i64 a b / 2) = (a + b) / 2 := by rw [IntWalk.i64_in _ (by omega)]; omega
  clear h1 h2 h3 ha hb
  go_enter Try.func50, Try.ntmps50
  go_wp2
  go_ret
  exact ⟨by first | rfl | simp_all, by (repeat (first | with_reducible (exact Since.refl _) | with_reducible assumption | with_reducible (refine Since.drew ?_) | with_reducible (refine Since.drewN ?_ _) | with_reducible (refine Since.alloc ?_ _) | (with_reducible (refine Since.setCell ?_ ?_ _); rotate_left; focus (first | (simp; done) | (simp; omega) | omega)) | (with_reducible (refine Since.trans ?_ (by with_reducible assumption)))))⟩
end Go.Proofs.Ytdbenpncnkfliaa

/-
  Layer 11: 'Mid' of both, 'point', 'at', walked.
-/
namespace Go.Proofs.Ytdbenpncnkfliaa
open Go.RowKit
set_option linter.unusedVariables false

def mid (a b : Int) : Int := (a + b) / 2
theorem mid_in {a b : Int} (ha : In64 a) (hb : In64 b) : In64 (mid a b) := by unfold In64 mid at *; omega
theorem ou_middle' (a b : Int) (ha : In64 a) (hb : In64 b) (w : World) : Calls Try.prog 50 #[.int .i64 a, .int .i64 b] w fun e w' => e = .returned (.int .i64 (mid a b)) ∧ Since w w' := ou_middle a b ha hb w
set_option maxRecDepth 100000 in
set_option maxHeartbeats 4000000 in
theorem ou_mid (x y u v : Int) (h : InP x y) (h' : InP u v) (w : World) :
    Calls Try.prog 19 #[Pt x y, Pt u v] w fun e w' => e = .returned (Pt (mid x u) (mid y v)) ∧ Since w w' := by
  have h1 := fun w => ou_middle' x u h.1 h'.1 w
  have h2 := fun w => ou_middle' y v h.2 h'.2 w
  generalize mid x u = X at *
  generalize mid y v = Y at *
  unfold Pt
  have H1 := Lib.hid h1
  have H2 := Lib.hid h2
  clear h1 h2 h h'
  go_enter Try.func19, Try.ntmps19
  go_wp2
  (refine wp_named fun wr1 hwr1 => ?_; go_region_held3 (fun w' => (∀ b o, b < (w.heap.size + 1 + 1) → w'.cell? ⟨b, o, none⟩ = wr1.cell? ⟨b, o, none⟩) ∧ (∀ b o, b < wr1.heap.size → w'.frozen? ⟨b, o, none⟩ = wr1.frozen? ⟨b, o, none⟩) ∧ (∀ k, k < wr1.heap.size → k < w'.heap.size) ∧ Below ((w.heap.size + 1 + 1)) wr1 w' ∧ (∀ o, o < 2 → w'.cell? ⟨(w.heap.size + 1 + 1), o, none⟩ = some (cellD w' ((w.heap.size + 1 + 1)) o))) ((subst hwr1; (repeat with_reducible (refine sr_set ?_ _ _)); first | assumption | (refine sr_step (by first | assumption | omega | (simp; done) | (simp; omega)) (by assumption) ?_; first | assumption | (repeat (first | with_reducible (exact Since.refl _) | with_reducible assumption | with_reducible (refine Since.drew ?_) | with_reducible (refine Since.drewN ?_ _) | with_reducible (refine Since.alloc ?_ _) | (with_reducible (refine Since.setCell ?_ ?_ _); rotate_left; focus (first | (simp; done) | (simp; omega) | omega))))) | (refine sr_step (by first | assumption | omega | (simp; done) | (simp; omega)) (sr_start (fun o ho => by (have ho' : o = 0 ∨ o = 1 := by omega); rcases ho' with rfl | rfl <;> (first | (simp [go_sem]; done) | simp_all))) ?_; first | assumption | (repeat (first | with_reducible (exact Since.refl _) | with_reducible assumption | with_reducible (refine Since.drew ?_) | with_reducible (refine Since.drewN ?_ _) | with_reducible (refine Since.alloc ?_ _) | (with_reducible (refine Since.setCell ?_ ?_ _); rotate_left; focus (first | (simp; done) | (simp; omega) | omega))))))) (first | (go_at_call 50; (with_reducible refine (H1.out _).mono ?_); rintro e w1 ⟨rfl, hS⟩; have hZ := hS.below.size; (try simp at hZ)) | (go_at_call 50; (with_reducible refine (H2.out _).mono ?_); rintro e w1 ⟨rfl, hS⟩; have hZ := hS.below.size; (try simp at hZ))); all_goals (rename_i hHeld; obtain ⟨hcR1, hfR1, hzR1, hbR1, hoR1⟩ := hHeld; have hiR := fun o ho => there_of (hoR1 o ho); (try simp only [there_set] at hiR); clear hoR1; subst hwr1; have hR1 : Since w _ := sr_out hbR1 (by (repeat (first | with_reducible (exact Since.refl _) | with_reducible assumption | with_reducible (refine Since.drew ?_) | with_reducible (refine Since.drewN ?_ _) | with_reducible (refine Since.alloc ?_ _) | (with_reducible (refine Since.setCell ?_ ?_ _); rotate_left; focus (first | (simp; done) | (simp; omega) | omega)) | (with_reducible (refine Since.trans ?_ (by with_reducible assumption)))))) (by first | (simp; done) | (simp; omega) | omega)))
  all_goals go_wp2
  all_goals refine bodyPost_ret (by simp only [results, Try.results19]; go_simp) rfl ⟨rfl, ?_⟩
  all_goals (repeat (first | with_reducible (exact Since.refl _) | with_reducible assumption | with_reducible (refine Since.drew ?_) | with_reducible (refine Since.drewN ?_ _) | with_reducible (refine Since.alloc ?_ _) | (with_reducible (refine Since.setCell ?_ ?_ _); rotate_left; focus (first | (simp; done) | (simp; omega) | omega)) | (with_reducible (refine Since.trans ?_ (by with_reducible assumption)))))
theorem tdiv_two {a : Int} : a = 2 * a.tdiv 2 ∨ (0 < a ∧ a = 2 * a.tdiv 2 + 1) ∨ (a < 0 ∧ a = 2 * a.tdiv 2 - 1) := by
  rcases Int.lt_or_le a 0 with hn | hn
  · have e : a.tdiv 2 = -((-a) / 2) := by
      have h1 : (-a).tdiv 2 = (-a) / 2 := Int.tdiv_eq_ediv_of_nonneg (by omega)
      rw [Int.neg_tdiv] at h1
      omega
    rw [e]
    omega
  · rw [Int.tdiv_eq_ediv_of_nonneg hn]
    omega
set_option maxRecDepth 100000 in
set_option maxHeartbeats 4000000 in
theorem rf_half (a b : Int) (ha : In64 a) (hb : In64 b) (w : World) :
    Calls Try.prog 51 #[.int .i64 a, .int .i64 b] w fun e w' => e = .returned (.int .i64 (mid a b)) ∧ Since w w' := by
  have ka := tdiv_two (a := a)
  have kb := tdiv_two (a := b)
  unfold In64 mid at *
  have w0 : IntKind.i64.wrap (a.tdiv 2) = a.tdiv 2 := IntWalk.i64_in _ (by omega)
  have w0' : IntKind.i64.wrap (b.tdiv 2) = b.tdiv 2 := IntWalk.i64_in _ (by omega)
  have w1 : IntKind.i64.wrap (2 * a.tdiv 2) = 2 * a.tdiv 2 := IntWalk.i64_in _ (by omega)
  have w2 : IntKind.i64.wrap (2 * b.tdiv 2) = 2 * b.tdiv 2 := IntWalk.i64_in _ (by omega)
  have w3 : IntKind.i64.wrap (a - 2 * a.tdiv 2) = a - 2 * a.tdiv 2 := IntWalk.i64_in _ (by omega)
  have w5 : wrap64 (wrap64 (a - 2 * a.tdiv 2 + b) - 2 * b.tdiv 2) = a - 2 * a.tdiv 2 + b - 2 * b.tdiv 2 := by unfold wrap64; omega
  have s1 : wrap64 (a.tdiv 2 + b.tdiv 2) = a.tdiv 2 + b.tdiv 2 := by unfold wrap64; omega
  generalize hp : a.tdiv 2 = p at *
  generalize hq : b.tdiv 2 = q at *
  generalize hR : wrap64 (wrap64 (a - 2 * p + b) - 2 * q) = R at *
  have hr : R = 2 ∨ R < 0 ∨ (R ≠ 2 ∧ ¬ R < 0) := by omega
  have HR := Lib.hid hR
  rcases hr with hr | hr | ⟨hr, hr'⟩
  · have d1 : (wrap64 (wrap64 (a - 2 * p + b) - 2 * q) == 2) = true := by rw [HR.out]; simp [hr]
    have s2 : wrap64 (p + q + 1) = (a + b) / 2 := by unfold wrap64; omega
    clear hr ka kb ha hb w5 hR HR
    go_enter Try.func51, Try.ntmps51
    go_wp2
    go_ret
    exact ⟨by show Ending.returned (.int .i64 (wrap64 (p + q + 1))) = _; rw [s2], by (repeat (first | with_reducible (exact Since.refl _) | with_reducible assumption | with_reducible (refine Since.drew ?_) | with_reducible (refine Since.drewN ?_ _) | with_reducible (refine Since.alloc ?_ _) | (with_reducible (refine Since.setCell ?_ ?_ _); rotate_left; focus (first | (simp; done) | (simp; omega) | omega)) | (with_reducible (refine Since.trans ?_ (by with_reducible assumption)))))⟩
  · have d1 : (wrap64 (wrap64 (a - 2 * p + b) - 2 * q) == 2) = false := by rw [HR.out]; simp; omega
    have d2 : decide (wrap64 (wrap64 (a - 2 * p + b) - 2 * q) < 0) = true := by rw [HR.out]; simp [hr]
    have s2 : wrap64 (p + q - 1) = (a + b) / 2 := by unfold wrap64; omega
    clear hr ka kb ha hb w5 hR HR
    go_enter Try.func51, Try.ntmps51
    go_wp2
    go_ret
    exact ⟨by show Ending.returned (.int .i64 (wrap64 (p + q - 1))) = _; rw [s2], by (repeat (first | with_reducible (exact Since.refl _) | with_reducible assumption | with_reducible (refine Since.drew ?_) | with_reducible (refine Since.drewN ?_ _) | with_reducible (refine Since.alloc ?_ _) | (with_reducible (refine Since.setCell ?_ ?_ _); rotate_left; focus (first | (simp; done) | (simp; omega) | omega)) | (with_reducible (refine Since.trans ?_ (by with_reducible assumption)))))⟩
  · have d1 : (wrap64 (wrap64 (a - 2 * p + b) - 2 * q) == 2) = false := by rw [HR.out]; simp [hr]
    have d2 : decide (wrap64 (wrap64 (a - 2 * p + b) - 2 * q) < 0) = false := by rw [HR.out]; simpa using hr'
    have s2 : wrap64 (p + q) = (a + b) / 2 := by unfold wrap64; omega
    clear hr ka kb ha hb w5 hR HR s1
    go_enter Try.func51, Try.ntmps51
    go_wp2
    go_ret
    exact ⟨rfl, by (repeat (first | with_reducible (exact Since.refl _) | with_reducible assumption | with_reducible (refine Since.drew ?_) | with_reducible (refine Since.drewN ?_ _) | with_reducible (refine Since.alloc ?_ _) | (with_reducible (refine Since.setCell ?_ ?_ _); rotate_left; focus (first | (simp; done) | (simp; omega) | omega)) | (with_reducible (refine Since.trans ?_ (by with_reducible assumption)))))⟩
set_option maxRecDepth 100000 in
set_option maxHeartbeats 4000000 in
theorem rf_mid (x y u v : Int) (h : InP x y) (h' : InP u v) (w : World) :
    Calls Try.prog 20 #[Pt x y, Pt u v] w fun e w' => e = .returned (Pt (mid x u) (mid y v)) ∧ Since w w' := by
  have h1 := fun w => rf_half x u h.1 h'.1 w
  have h2 := fun w => rf_half y v h.2 h'.2 w
  generalize mid x u = X at *
  generalize mid y v = Y at *
  unfold Pt
  have H1 := Lib.hid h1
  have H2 := Lib.hid h2
  clear h1 h2 h h'
  go_enter Try.func20, Try.ntmps20
  go_wp2
  (refine wp_named fun wr1 hwr1 => ?_; go_region_held3 (fun w' => (∀ b o, b < (w.heap.size + 1 + 1) → w'.cell? ⟨b, o, none⟩ = wr1.cell? ⟨b, o, none⟩) ∧ (∀ b o, b < wr1.heap.size → w'.frozen? ⟨b, o, none⟩ = wr1.frozen? ⟨b, o, none⟩) ∧ (∀ k, k < wr1.heap.size → k < w'.heap.size) ∧ Below ((w.heap.size + 1 + 1)) wr1 w' ∧ (∀ o, o < 2 → w'.cell? ⟨(w.heap.size + 1 + 1), o, none⟩ = some (cellD w' ((w.heap.size + 1 + 1)) o))) ((subst hwr1; (repeat with_reducible (refine sr_set ?_ _ _)); first | assumption | (refine sr_step (by first | assumption | omega | (simp; done) | (simp; omega)) (by assumption) ?_; first | assumption | (repeat (first | with_reducible (exact Since.refl _) | with_reducible assumption | with_reducible (refine Since.drew ?_) | with_reducible (refine Since.drewN ?_ _) | with_reducible (refine Since.alloc ?_ _) | (with_reducible (refine Since.setCell ?_ ?_ _); rotate_left; focus (first | (simp; done) | (simp; omega) | omega))))) | (refine sr_step (by first | assumption | omega | (simp; done) | (simp; omega)) (sr_start (fun o ho => by (have ho' : o = 0 ∨ o = 1 := by omega); rcases ho' with rfl | rfl <;> (first | (simp [go_sem]; done) | simp_all))) ?_; first | assumption | (repeat (first | with_reducible (exact Since.refl _) | with_reducible assumption | with_reducible (refine Since.drew ?_) | with_reducible (refine Since.drewN ?_ _) | with_reducible (refine Since.alloc ?_ _) | (with_reducible (refine Since.setCell ?_ ?_ _); rotate_left; focus (first | (simp; done) | (simp; omega) | omega))))))) (first | (go_at_call 51; (with_reducible refine (H1.out _).mono ?_); rintro e w1 ⟨rfl, hS⟩; have hZ := hS.below.size; (try simp at hZ)) | (go_at_call 51; (with_reducible refine (H2.out _).mono ?_); rintro e w1 ⟨rfl, hS⟩; have hZ := hS.below.size; (try simp at hZ))); all_goals (rename_i hHeld; obtain ⟨hcR1, hfR1, hzR1, hbR1, hoR1⟩ := hHeld; have hiR := fun o ho => there_of (hoR1 o ho); (try simp only [there_set] at hiR); clear hoR1; subst hwr1; have hR1 : Since w _ := sr_out hbR1 (by (repeat (first | with_reducible (exact Since.refl _) | with_reducible assumption | with_reducible (refine Since.drew ?_) | with_reducible (refine Since.drewN ?_ _) | with_reducible (refine Since.alloc ?_ _) | (with_reducible (refine Since.setCell ?_ ?_ _); rotate_left; focus (first | (simp; done) | (simp; omega) | omega)) | (with_reducible (refine Since.trans ?_ (by with_reducible assumption)))))) (by first | (simp; done) | (simp; omega) | omega)))
  all_goals go_wp2
  all_goals refine bodyPost_ret (by simp only [results, Try.results20]; go_simp) rfl ⟨rfl, ?_⟩
  all_goals (repeat (first | with_reducible (exact Since.refl _) | with_reducible assumption | with_reducible (refine Since.drew ?_) | with_reducible (refine Since.drewN ?_ _) | with_reducible (refine Since.alloc ?_ _) | (with_reducible (refine Since.setCell ?_ ?_ _); rotate_left; focus (first | (simp; done) | (simp; omega) | omega)) | (with_reducible (refine Since.trans ?_ (by with_reducible assumption)))))
/-- A knot. -/
def Kn (x y : Int) (o : Bool) : Value := .agg #[.int .i64 x, .int .i64 y, .bool o]
theorem ou_point (x y : Int) (o : Bool) (w : World) : Calls Try.prog 48 #[Kn x y o] w fun e w' => e = .returned (Pt x y) ∧ Since w w' := by
  unfold Kn Pt
  go_enter Try.func48, Try.ntmps48
  go_wp2
  refine bodyPost_ret (by simp only [results, Try.results48]; go_simp) rfl ⟨rfl, ?_⟩
  (repeat (first | with_reducible (exact Since.refl _) | with_reducible assumption | with_reducible (refine Since.drew ?_) | with_reducible (refine Since.drewN ?_ _) | with_reducible (refine Since.alloc ?_ _) | (with_reducible (refine Since.setCell ?_ ?_ _); rotate_left; focus (first | (simp; done) | (simp; omega) | omega)) | (with_reducible (refine Since.trans ?_ (by with_reducible assumption)))))
theorem rf_at (x y : Int) (o : Bool) (w : World) : Calls Try.prog 49 #[Kn x y o] w fun e w' => e = .returned (Pt x y) ∧ Since w w' := by
  unfold Kn Pt
  go_enter Try.func49, Try.ntmps49
  go_wp2
  refine bodyPost_ret (by simp only [results, Try.results49]; go_simp) rfl ⟨rfl, ?_⟩
  (repeat (first | with_reducible (exact Since.refl _) | with_reducible assumption | with_reducible (refine Since.drew ?_) | with_reducible (refine Since.drewN ?_ _) | with_reducible (refine Since.alloc ?_ _) | (with_reducible (refine Since.setCell ?_ ?_ _); rotate_left; focus (first | (simp; done) | (simp; omega) | omega)) | (with_reducible (refine Since.trans ?_ (by with_reducible assumption)))))
theorem ou_on (x y : Int) (o : Bool) (w : World) : Calls Try.prog 47 #[Kn x y o] w fun e w' => e = .returned (.bool o) ∧ Since w w' := by
  unfold Kn
  go_enter Try.func47, Try.ntmps47
  go_wp2
  go_ret
  exact ⟨rfl, by (repeat (first | with_reducible (exact Since.refl _) | with_reducible assumption | with_reducible (refine Since.drew ?_) | with_reducible (refine Since.drewN ?_ _) | with_reducible (refine Since.alloc ?_ _) | (with_reducible (refine Since.setCell ?_ ?_ _); rotate_left; focus (first | (simp; done) | (simp; omega) | omega)) | (with_reducible (refine Since.trans ?_ (by with_reducible assumption)))))⟩
end Go.Proofs.Ytdbenpncnkfliaa

/-
  Layer 11: slices of knots; slices.IndexFunc, walked.
-/
namespace Go.Proofs.Ytdbenpncnkfliaa
open Go.RowKit
set_option linter.unusedVariables false

/-- A slice's n knots, in a block below B (nil and empty let in). -/
def RdK (w : World) (B : Nat) (A : Option Addr) (n : Nat) (X Y : Nat → Int) (O : Nat → Bool) : Prop :=
  0 < n → ∃ b o, A = some ⟨b, o, none⟩ ∧ b < B ∧ ∀ j, j < n → w.cell? ⟨b, o + j * 3, none⟩ = some (.int .i64 (X j)) ∧ w.cell? ⟨b, o + j * 3 + 1, none⟩ = some (.int .i64 (Y j)) ∧ w.cell? ⟨b, o + j * 3 + 2, none⟩ = some (.bool (O j))
section
variable {w w' : World} {B B' n : Nat} {A : Option Addr} {X Y : Nat → Int} {O : Nat → Bool}
theorem RdK.zero : RdK w B A 0 X Y O := fun h => absurd h (by omega)
theorem RdK.keep (h : RdK w B A n X Y O) (hk : ∀ b o, b < B → w'.cell? ⟨b, o, none⟩ = w.cell? ⟨b, o, none⟩) : RdK w' B A n X Y O := fun hn => by
  obtain ⟨b, o, rfl, hb, hc⟩ := h hn
  exact ⟨b, o, rfl, hb, fun j hj => ⟨(hk _ _ hb).trans (hc j hj).1, (hk _ _ hb).trans (hc j hj).2.1, (hk _ _ hb).trans (hc j hj).2.2⟩⟩
theorem RdK.more (h : RdK w B A n X Y O) (hB : B ≤ B') : RdK w B' A n X Y O := fun hn => by
  obtain ⟨b, o, rfl, hb, hc⟩ := h hn
  exact ⟨b, o, rfl, by omega, hc⟩
theorem RdK.on (h : RdK w w.heap.size A n X Y O) (k : Since w w') : RdK w' w'.heap.size A n X Y O := (h.keep fun b o hb => k.1 b o hb).more k.below.size
end
/-- The first knot on the curve among those from k on; n if there is none. -/
def firstFrom (O : Nat → Bool) (n : Nat) : Nat → Nat → Nat
  | 0, k => n
  | f + 1, k => if k < n then (if O k then k else firstFrom O n f (k + 1)) else n
def firstOn (O : Nat → Bool) (n : Nat) : Nat := firstFrom O n n 0
theorem firstFrom_is (O : Nat → Bool) (n : Nat) : ∀ f k, n ≤ f + k → k ≤ n → (∀ j, j < k → O j = false) → (firstFrom O n f k ≤ n ∧ (∀ j, j < firstFrom O n f k → O j = false) ∧ (firstFrom O n f k < n → O (firstFrom O n f k) = true))
  | 0, k, h, hk, ha => by
    obtain rfl : k = n := by omega
    exact ⟨Nat.le_refl _, ha, fun h => absurd h (Nat.lt_irrefl _)⟩
  | f + 1, k, h, hk, ha => by
    unfold firstFrom
    by_cases hlt : k < n
    · rw [if_pos hlt]
      cases ho : O k with
      | true => rw [if_pos rfl]; exact ⟨hk, ha, fun _ => ho⟩
      | false =>
        rw [if_neg (by simp)]
        refine firstFrom_is O n f (k + 1) (by omega) (by omega) (fun j hj => ?_)
        by_cases e : j = k
        · subst e; exact ho
        · exact ha j (by omega)
    · obtain rfl : k = n := by omega
      rw [if_neg hlt]
      exact ⟨Nat.le_refl _, ha, fun h => absurd h (Nat.lt_irrefl _)⟩
theorem firstOn_is (O : Nat → Bool) (n : Nat) : firstOn O n ≤ n ∧ (∀ j, j < firstOn O n → O j = false) ∧ (firstOn O n < n → O (firstOn O n) = true) :=
  firstFrom_is O n n 0 (by omega) (by omega) (fun j hj => absurd hj (by omega))
theorem firstOn_eq {O : Nat → Bool} {n k : Nat} (hk : k < n) (ha : ∀ j, j < k → O j = false) (ho : O k = true) : firstOn O n = k := by
  obtain ⟨h1, h2, h3⟩ := firstOn_is O n
  rcases Nat.lt_trichotomy (firstOn O n) k with h | h | h
  · have := h3 (by omega); rw [ha _ h] at this; cases this
  · exact h
  · have := h2 k h; rw [ho] at this; cases this
theorem firstOn_none {O : Nat → Bool} {n : Nat} (ha : ∀ j, j < n → O j = false) : firstOn O n = n := by
  obtain ⟨h1, h2, h3⟩ := firstOn_is O n
  rcases Nat.lt_or_ge (firstOn O n) n with h | h
  · have := h3 h; rw [ha _ h] at this; cases this
  · omega
def idxI (O : Nat → Bool) (n : Nat) : Int := if firstOn O n < n then firstOn O n else -1
set_option maxRecDepth 100000 in
set_option maxHeartbeats 4000000 in
theorem ou_index (A : Option Addr) (n c : Nat) (X Y : Nat → Int) (O : Nat → Bool) (w : World) (h : RdK w w.heap.size A n X Y O) (hn : n ≤ maxLen) :
    Calls Try.prog 46 #[.slice A n c, .func (.func 47) #[] #[]] w fun e w' => e = .returned (.int .i64 (idxI O n)) ∧ Since w w' := by
  have hn' : (n : Int) ≤ 9223372036854775807 := by simp only [maxLen] at hn; omega
  have hon := fun x y o w => ou_on x y o w
  unfold Kn at hon
  have HO := Lib.hid hon
  clear hon
  go_enter Try.func46, Try.ntmps46
  go_wp2
  go_loopw [8] (fun y wr => ∃ j : Nat, j ≤ n ∧ y = .int .i64 (j : Int) ∧ Hid (∀ i, i < j → O i = false) ∧ Since w wr) (fun y _ => n - (intOf y).toNat)
  case atStart => exact ⟨0, by omega, rfl, Lib.hid (fun i hi => absurd hi (by omega)), Since.refl _⟩
  case round =>
    obtain ⟨j, hj, rfl, HA, hSr⟩ := hrel
    by_cases hjn : j < n
    · have hjn' : (j : Int) < n := by omega
      obtain ⟨b, o, rfl, hb, hc⟩ := h (by omega)
      have c1 : wr.cell? ⟨b, o + j * 3, none⟩ = some (.int .i64 (X j)) := (hSr.1 _ _ hb).trans (hc j hjn).1
      have c2 : wr.cell? ⟨b, o + j * 3 + 1, none⟩ = some (.int .i64 (Y j)) := (hSr.1 _ _ hb).trans (hc j hjn).2.1
      have c3 : wr.cell? ⟨b, o + j * 3 + 2, none⟩ = some (.bool (O j)) := (hSr.1 _ _ hb).trans (hc j hjn).2.2
      have hblt : b < wr.heap.size := by have := hSr.below.size; omega
      clear hc h
      cases ho : O j
      · rw [ho] at c3
        go_wp2_with (go_at_call 47; (with_reducible refine (HO.out _ _ _ _).mono ?_); rintro e w1 ⟨rfl, hS1⟩)
        go_roundw
        case rel => exact ⟨j + 1, by omega, by go_num, Lib.hid (fun i hi => by
          by_cases e : i = j
          · subst e; exact ho
          · exact HA.out i (by omega)), hSr.trans hS1⟩
        case measure => simp [intOf]; omega
      · rw [ho] at c3
        go_wp2_with (go_at_call 47; (with_reducible refine (HO.out _ _ _ _).mono ?_); rintro e w1 ⟨rfl, hS1⟩)
        go_ret
        refine ⟨?_, hSr.trans hS1⟩
        unfold idxI
        rw [firstOn_eq hjn HA.out ho, if_pos hjn]
        rfl
    · obtain rfl : j = n := by omega
      clear h
      go_wp2
      go_ret
      refine ⟨?_, hSr⟩
      unfold idxI
      rw [firstOn_none HA.out, if_neg (Nat.lt_irrefl _)]
      rfl
end Go.Proofs.Ytdbenpncnkfliaa

/-
  Layer 11: the pieces of a contour, as a list; own rows of pieces.
-/
namespace Go.Proofs.Ytdbenpncnkfliaa
open Go.RowKit Go.ChangeShapes Go.WideShapes Go.Deep
set_option linter.unusedVariables false

/-- The cells of pieces, one behind the other. -/
def sgL (s : Sg) : List Value := [.int .i64 s.ax, .int .i64 s.ay, .int .i64 s.cx, .int .i64 s.cy, .int .i64 s.bx, .int .i64 s.bz, .bool s.k]
def cellsL (L : List Sg) : List Value := L.flatMap sgL
theorem cellsL_snoc (L : List Sg) (s : Sg) : cellsL (L ++ [s]) = cellsL L ++ sgL s := by unfold cellsL; simp
theorem sgL_tab (s : Sg) : tab 7 (fun j => (sgL s).getD j undef) = sgL s := rfl
theorem sgL_ones (s : Sg) : ∀ u ∈ sgL s, u.oneCell' = true := by
  intro u hu
  simp only [sgL, List.mem_cons, List.not_mem_nil, or_false] at hu
  rcases hu with rfl | rfl | rfl | rfl | rfl | rfl | rfl <;> rfl
/-- A row of pieces that the call has made. -/
def OwnS (w : World) (base : Nat) (v : Value) (L : List Sg) : Prop := w.ownsRow base 37 7 v L.length (cellsL L)
theorem OwnS.since {w w' : World} {base : Nat} {v : Value} {L : List Sg} (h : OwnS w base v L) (k : Since w w') : OwnS w' base v L := own_since_k (n := L.length) h k
theorem OwnS.nil (w : World) (base : Nat) : OwnS w base (.slice none 0 0) [] := World.ownsRow_nil _ _ _ _
theorem infoSeg : (Try.prog.info? 37).map (fun i => (i.zero, i.size, i.bytes)) = some (some (.agg #[.int .i64 0, .int .i64 0, .int .i64 0, .int .i64 0, .int .i64 0, .int .i64 0, .bool false]), 7, 56) := by kernel_rfl
/-- append of one piece, just built. -/
theorem wpList_append_seg {w : World} {ops : Array Oper} {rest : List Oper} {o : Oper} {a : Act} {Q : Exit → Act → World → Prop} (hgd : o.guard = none) (s x : Operand)
    (ho : o.op = .call { callee := .builtin .append, args := #[s, x], argTypes := #[25, 25] })
    (base : Nat) (v : Value) (L : List Sg) (hs : a.eval s = v) (hown : OwnS w base v L) (b c : Nat) (p : Sg) (hx : a.eval x = .slice (some ⟨b, 0, none⟩) 1 c) (hp : SegAt w b p) (hL : L.length ≤ 1000000) (hbase : base ≤ w.heap.size)
    (h : ∀ v' w', OwnS w' base v' (L ++ [p]) → w.grownBy w' v.ownBlock → (∀ q, v.ownBlock = some q → base ≤ q) → wpList Try.prog ops Q rest (a.put o.dst v') w') :
    wpList Try.prog ops Q (o :: rest) a w := by
  obtain ⟨i0, hi, hz0, hz1, hz2⟩ := info_parts infoSeg
  obtain ⟨h1, h2, h3, h4, h5, h6, h7, h8⟩ := hp
  have hr : Rd w w.heap.size (some ⟨b, 0, none⟩) (1 * 7) (fun j => (sgL p).getD j undef) := fun _ => ⟨b, 0, rfl, h8, fun j hj => by
    rw [Nat.zero_add]
    have hh : j = 0 ∨ j = 1 ∨ j = 2 ∨ j = 3 ∨ j = 4 ∨ j = 5 ∨ j = 6 := by omega
    rcases hh with rfl | rfl | rfl | rfl | rfl | rfl | rfl <;> assumption⟩
  have hone : ∀ u ∈ tab (1 * 7) (fun j => (sgL p).getD j undef), u.oneCell' = true := by
    rw [show 1 * 7 = 7 from rfl, sgL_tab]; exact sgL_ones p
  refine wpList_append_k w hgd s x 25 ho base 37 i0 _ 7 56 Try.underlying25 hi hz0 hz1 hz2 rfl (by decide) v L.length (cellsL L) hs hown w.heap.size _ 1 c _ hx hr hone (by omega) (by simp only [maxLen]; omega) hbase (fun v' w' h9 hg => h v' w' ?_ hg (fun q hq => ?_))
  · rw [show 1 * 7 = 7 from rfl, sgL_tab, ← cellsL_snoc] at h9
    unfold OwnS
    rw [List.length_append]
    exact h9
  · unfold OwnS at hown
    rcases hown.2 with ⟨rfl, _⟩ | ⟨g, cap, cur, rfl, hb, _⟩
    · cases hq
    · simp only [Value.ownBlock, Option.some.injEq] at hq; omega
/-- A piece that isn't a point alone. -/
def sgOk (s : Sg) : Bool := !(s.ax == s.bx && s.ay == s.bz) || (s.k && !(s.cx == s.ax && s.cy == s.ay))
def addS (L : List Sg) (s : Sg) : List Sg := if sgOk s then L ++ [s] else L
section
variable (f n : Nat) (X Y : Nat → Int) (O : Nat → Bool)
/-- One knot's piece: where the way is, the pieces so far. -/
def stepS (h : Int × Int) (L : List Sg) (i : Nat) : (Int × Int) × List Sg :=
  if O ((f + i) % n) then
    (if O ((f + i + 1) % n) then ((X ((f + i + 1) % n), Y ((f + i + 1) % n)), addS L ⟨h.1, h.2, 0, 0, X ((f + i + 1) % n), Y ((f + i + 1) % n), false⟩) else (h, L))
  else
    (if O ((f + i + 1) % n) then ((X ((f + i + 1) % n), Y ((f + i + 1) % n)), addS L ⟨h.1, h.2, X ((f + i) % n), Y ((f + i) % n), X ((f + i + 1) % n), Y ((f + i + 1) % n), true⟩)
     else ((mid (X ((f + i) % n)) (X ((f + i + 1) % n)), mid (Y ((f + i) % n)) (Y ((f + i + 1) % n))), addS L ⟨h.1, h.2, X ((f + i) % n), Y ((f + i) % n), mid (X ((f + i) % n)) (X ((f + i + 1) % n)), mid (Y ((f + i) % n)) (Y ((f + i + 1) % n)), true⟩))
def runS (h : Int × Int) : Nat → (Int × Int) × List Sg
  | 0 => (h, [])
  | i + 1 => stepS f n X Y O (runS h i).1 (runS h i).2 i
end
def startS (n : Nat) (X Y : Nat → Int) (O : Nat → Bool) : Int × Int := if firstOn O n < n then (X (firstOn O n), Y (firstOn O n)) else (mid (X (n - 1)) (X 0), mid (Y (n - 1)) (Y 0))
def frs (n : Nat) (O : Nat → Bool) : Nat := if firstOn O n < n then firstOn O n else 0
def segsL (n : Nat) (X Y : Nat → Int) (O : Nat → Bool) : List Sg := if n = 0 then [] else (runS (frs n O) n X Y O (startS n X Y O) n).2
theorem addS_len (L : List Sg) (s : Sg) : (addS L s).length ≤ L.length + 1 := by unfold addS; split <;> simp
theorem runS_len (f n : Nat) (X Y : Nat → Int) (O : Nat → Bool) (h : Int × Int) : ∀ i, (runS f n X Y O h i).2.length ≤ i
  | 0 => by simp [runS]
  | i + 1 => by
    have ih := runS_len f n X Y O h i
    have hs : ∀ s, (addS (runS f n X Y O h i).2 s).length ≤ i + 1 := fun s => Nat.le_trans (addS_len _ s) (by omega)
    unfold runS stepS
    split <;> split
    · exact hs _
    · simp only; omega
    · exact hs _
    · exact hs _
end Go.Proofs.Ytdbenpncnkfliaa
