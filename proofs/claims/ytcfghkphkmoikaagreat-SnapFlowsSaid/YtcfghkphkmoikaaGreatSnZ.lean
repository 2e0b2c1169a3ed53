/-
  Layer 17: the edges that a table of pieces forms ('sorted'), walked.
-/
import Derived.Test.YtcfghkphkmoikaaGreatMqX
import Derived.Test.YtcfghkphkmoikaaGreatPxR
import Derived.ChangeKeysEq
namespace Go.Proofs.YtcfghkphkmoikaaGreat
set_option maxRecDepth 100000
open Go.RowKit Go.Sort Go.Maps
set_option linter.unusedVariables false
theorem cell_alloc9 {w : World} {o : Obj} {b p : Nat} (h : b < w.heap.size) : (w.alloc o).cell? ⟨b, p, none⟩ = w.cell? ⟨b, p, none⟩ := World.cell?_alloc_lt w o ⟨b, p, none⟩ h
theorem cell_drew9 (w : World) (p : Addr) : w.drew.cell? p = w.cell? p := rfl
theorem eq_mn (w : World) (x y u v : Int) : (Op.equalIn 10000 85 (.agg #[.int .i32 x, .int .i32 y]) (.agg #[.int .i32 u, .int .i32 v])).run Tryz.prog w = .ok (x == u && y == v) w := by
  obtain ⟨i, hi⟩ : ∃ i, Tryz.prog.info? 21 = some i := Option.isSome_iff_exists.1 (by kernel_rfl)
  rw [run_equalIn_array w 9999 (e := 21) (n := 2) (i := i) _ _ Tryz.underlying85 hi]
  have hc : Tryz.prog.cellsOf 21 = 1 := by kernel_rfl
  rw [hc]
  have hl : List.range 2 = [0, 1] := rfl
  rw [hl]
  have heq : ∀ (d : Nat) (a b : Int), (Op.equalIn (d + 1) 21 (.int .i32 a) (.int .i32 b)).run Tryz.prog w = .ok (a == b) w := fun d a b => run_equalIn_int w d _ _ _ a b Tryz.underlying21
  simp only [Op.eqItems]
  by_cases h0 : x = u
  · by_cases h1 : y = v
    · simp [go_sem, h0, h1]
    · simp [go_sem, h0, h1]
  · simp [go_sem, h0]
/-- What was built of the entries that were met. -/
def EdgH (V : Pq → Pq → Option (Int × Int)) (left : Lit → Bool) (L : List Eg) : Prop := L.Nodup ∧ ∀ e : Eg, e ∈ L ↔ (V e.a e.b = some (e.m, e.n) ∧ ¬ (e.m = 0 ∧ e.n = 0) ∧ left (kQ e.a e.b) = false)
/-- Only pixels in range are in the table. -/
def SupQ (V : Pq → Pq → Option (Int × Int)) : Prop := ∀ a b v, V a b = some v → PixOk a ∧ PixOk b
theorem pix_wf {p : Pq} (h : PixOk p) : WfQ p := by
  unfold PixOk at h
  exact ⟨i32_of (by omega), i32_of (by omega)⟩
theorem edgH_start {V : Pq → Pq → Option (Int × Int)} {D : DataW Unit} (hT : TabQ D V) (hS : SupQ V) : EdgH V (Maps.has D) [] := by
  refine ⟨List.nodup_nil, fun e => ⟨fun h => (by cases h), fun ⟨h1, _, h3⟩ => ?_⟩⟩
  obtain ⟨p1, p2⟩ := hS _ _ _ h1
  rw [hT.2.2 _ _ (pix_wf p1) (pix_wf p2), h1] at h3
  cases h3
theorem EdgH.done {V : Pq → Pq → Option (Int × Int)} {left : Lit → Bool} {L : List Eg} (h : EdgH V left L) (hl : ∀ kl, left kl = false) (e : Eg) : e ∈ L ↔ (V e.a e.b = some (e.m, e.n) ∧ ¬ (e.m = 0 ∧ e.n = 0)) := by
  rw [h.2 e]
  exact ⟨fun ⟨a, b, _⟩ => ⟨a, b⟩, fun ⟨a, b⟩ => ⟨a, b, hl _⟩⟩
theorem EdgH.step {V : Pq → Pq → Option (Int × Int)} {left : Lit → Bool} {L : List Eg} (h : EdgH V left L) (hS : SupQ V) {p q : Pq} (hp : WfQ p) (hq : WfQ q) {c : Int × Int} (hV : V p q = some c) (hl : left (kQ p q) = true) :
    EdgH V (fun z => left z && !z.sameKey (kQ p q)) (if c.1 = 0 ∧ c.2 = 0 then L else L ++ [⟨p, q, c.1, c.2⟩]) := by
  have hnew : ∀ e : Eg, V e.a e.b = some (e.m, e.n) → ((left (kQ e.a e.b) && !(kQ e.a e.b).sameKey (kQ p q)) = false ↔ left (kQ e.a e.b) = false ∨ (e.a = p ∧ e.b = q)) := by
    intro e he
    obtain ⟨w1, w2⟩ := hS _ _ _ he
    have w1 := pix_wf w1
    have w2 := pix_wf w2
    constructor
    · intro k
      cases hle : left (kQ e.a e.b)
      · exact .inl rfl
      · rw [hle, Bool.true_and] at k
        have k : (kQ e.a e.b).sameKey (kQ p q) = true := by simpa using k
        exact .inr (kQ_inj w1 w2 hp hq (WideAt.sameKey_eq k))
    · rintro (k | ⟨k1, k2⟩)
      · rw [k]; rfl
      · rw [k1, k2, WideAt.sameKey_self (kQ_key hp hq)]; simp
  have hno : ∀ e ∈ L, ¬ (e.a = p ∧ e.b = q) := fun e he ⟨k1, k2⟩ => by
    have := ((h.2 e).1 he).2.2
    rw [k1, k2, hl] at this
    cases this
  split
  · rename_i hc
    refine ⟨h.1, fun e => ?_⟩
    rw [h.2 e]
    constructor
    · rintro ⟨a, b, c'⟩
      exact ⟨a, b, (hnew e a).2 (.inl c')⟩
    · rintro ⟨a, b, c'⟩
      refine ⟨a, b, ?_⟩
      rcases (hnew e a).1 c' with k | ⟨k1, k2⟩
      · exact k
      · rw [k1, k2, hV] at a
        injection a with a
        rw [a] at hc
        exact absurd hc b
  · rename_i hc
    refine ⟨?_, fun e => ?_⟩
    · rw [List.nodup_append]
      refine ⟨h.1, by simp, ?_⟩
      intro a ha b hb e
      rw [List.mem_singleton] at hb
      subst hb
      exact hno a ha (by rw [e]; exact ⟨rfl, rfl⟩)
    · rw [List.mem_append, List.mem_singleton, h.2 e]
      constructor
      · rintro (⟨a, b, c'⟩ | rfl)
        · exact ⟨a, b, (hnew e a).2 (.inl c')⟩
        · exact ⟨hV, hc, (hnew ⟨p, q, c.1, c.2⟩ hV).2 (.inr ⟨rfl, rfl⟩)⟩
      · rintro ⟨a, b, c'⟩
        rcases (hnew e a).1 c' with k | ⟨k1, k2⟩
        · exact .inl ⟨a, b, k⟩
        · right
          rw [k1, k2, hV] at a
          injection a with a
          obtain ⟨ea, eb, em, en⟩ := e
          simp only at k1 k2 a
          subst k1 k2
          rw [a]
theorem infoEg0 : (Tryz.prog.info? 47).map (fun i => (i.zero, i.size, i.bytes)) = some (some (.agg #[.int .i64 0, .int .i64 0, .int .i64 0, .int .i64 0, .int .i64 0, .int .i64 0]), 6, 48) := by kernel_rfl
theorem infoEg : ∃ i z, Tryz.prog.info? 47 = some i ∧ i.zero = some z ∧ i.size = 6 ∧ i.bytes = 48 ∧ z.cells.size = 6 := by
  obtain ⟨i0, hi, hz0, hz1, hz2⟩ := info_parts infoEg0
  exact ⟨i0, _, hi, hz0, hz1, hz2, rfl⟩
theorem invPc (key : Value) (kl : Lit) (h : keyOf Tryz.prog 82 key = some kl) : ∃ x : Pq × Pq, key = pcV x.1 x.2 := by
  obtain ⟨p, q, h, _⟩ := keyOf_pc_inv h
  exact ⟨(p, q), h⟩
theorem invMn (v : Value) (y : DataW Unit × List MemPlace) (h : mnE v = some y) : ∃ c : Int × Int, v = mnV c := by
  obtain ⟨c, h, _⟩ := mnE_inv h
  exact ⟨c, h⟩
/-- What the library's sort leaves is in strict order. -/
theorem strictE {L L' : List Eg} (hp : L'.Perm L) (hs : SortedL (Go.Proofs.ltOf cmpE) L') (hk : L.Pairwise fun e f => ¬ (e.a = f.a ∧ e.b = f.b)) : L'.Pairwise LtE := by
  have hk' : L'.Pairwise fun e f => ¬ (e.a = f.a ∧ e.b = f.b) := (hp.pairwise_iff (fun {a b} h k => h ⟨k.1.symm, k.2.symm⟩)).2 hk
  refine (hs.and hk').imp fun {e f} ⟨h1, h2⟩ => ?_
  have n1 : ¬ LtE f e := fun k => by rw [(cmpE_lt f e).2 k] at h1; cases h1
  by_cases k : LtE e f
  · exact k
  · have ha : e.a = f.a := ltP_eq (fun z => k (.inl z)) (fun z => n1 (.inl z))
    have hb : e.b = f.b := ltP_eq (fun z => k (.inr ⟨ha, z⟩)) (fun z => n1 (.inr ⟨ha.symm, z⟩))
    exact absurd ⟨ha, hb⟩ h2
theorem edg_keys {V : Pq → Pq → Option (Int × Int)} {L : List Eg} (hd : L.Nodup) (hm : ∀ e, e ∈ L → V e.a e.b = some (e.m, e.n)) : L.Pairwise fun e f => ¬ (e.a = f.a ∧ e.b = f.b) := by
  have h : ∀ {M : List Eg}, M.Nodup → (∀ e ∈ M, V e.a e.b = some (e.m, e.n)) → M.Pairwise fun e f => ¬ (e.a = f.a ∧ e.b = f.b) := by
    intro M
    induction M with
    | nil => exact fun _ _ => List.Pairwise.nil
    | cons x M ih =>
      intro h1 h2
      obtain ⟨n1, n2⟩ := List.nodup_cons.1 h1
      refine List.pairwise_cons.2 ⟨fun f hf ⟨k1, k2⟩ => ?_, ih n2 fun e he => h2 e (List.mem_cons_of_mem _ he)⟩
      have a1 := h2 x (by simp)
      have a2 := h2 f (List.mem_cons_of_mem _ hf)
      rw [k1, k2, a2] at a1
      injection a1 with a1
      injection a1 with a1 a3
      have e : x = f := by
        obtain ⟨xa, xb, xm, xn⟩ := x
        obtain ⟨fa, fb, fm, fn⟩ := f
        simp only at k1 k2 a1 a3
        subst k1 k2 a1 a3
        rfl
      rw [e] at n1
      exact n1 hf
  exact h hd hm
theorem pcV_inj {p q p' q' : Pq} (h : pcV p q = pcV p' q') : p' = p ∧ q' = q := by
  unfold pcV at h
  obtain ⟨x, y⟩ := p
  obtain ⟨u, v⟩ := q
  obtain ⟨x', y'⟩ := p'
  obtain ⟨u', v'⟩ := q'
  simp at h
  obtain ⟨rfl, rfl, rfl, rfl⟩ := h
  exact ⟨rfl, rfl⟩
theorem eg_one (w : World) (b : Nat) (hb : b = w.heap.size) (ty : TypeId) (e : Eg) : RdG 6 egL (w.alloc (.cells #[.int .i64 e.a.x, .int .i64 e.a.y, .int .i64 e.b.x, .int .i64 e.b.y, .int .i64 e.m, .int .i64 e.n] ty)) (w.alloc (.cells #[.int .i64 e.a.x, .int .i64 e.a.y, .int .i64 e.b.x, .int .i64 e.b.y, .int .i64 e.m, .int .i64 e.n] ty)).heap.size (some ⟨b, 0, none⟩) [e] :=
  rdG_one hb e (fun i hi => by
    have h : i = 0 ∨ i = 1 ∨ i = 2 ∨ i = 3 ∨ i = 4 ∨ i = 5 := by omega
    rcases h with rfl | rfl | rfl | rfl | rfl | rfl <;> rfl)
theorem cell_far {wa wb w7 : World} {y : Value} {b o : Nat} {v : Value} (hS : Since wa wb) (hg : wb.grownBy w7 y.ownBlock) (hb : b < wa.heap.size) (hne : y.ownBlock ≠ some b) (hc : wa.cell? ⟨b, o, none⟩ = some v) : w7.cell? ⟨b, o, none⟩ = some v := cell_grown ((hS.1 b o hb).trans hc) (Nat.lt_of_lt_of_le hb hS.below.size) hg hne
theorem sort_step {w wa wb w7 : World} {y : Value} {L : List Eg} {bm r m2 cnt : Nat} {D : DataW Unit} {left : Lit → Bool} (hR : wa.ranges Tryz.prog 82 mnE bm r m2 D left cnt) (hO : OwnG 47 6 egL wa w.heap.size y L) (hS : Since w wa) (hT : Since wa wb) (hg : wb.grownBy w7 y.ownBlock) :
    w7.ranges Tryz.prog 82 mnE bm r m2 D left cnt ∧ Since w w7 := by
  have h1 := hR.kept (grown_of_since hT) (by simp) (by simp)
  have h2 := hO.since hT
  exact ⟨h1.kept hg (fun e => h2.ne_map e.symm h1.owns rfl) (fun e => h2.ne_iter e.symm h1 rfl), since_grown (hS.trans hT) hg (fun k e => (h2.lt e).1)⟩
/-- What 'sorted' leaves. -/
def SortP (w : World) (V : Pq → Pq → Option (Int × Int)) (e : Ending) (w' : World) : Prop := ∃ v E, e = .returned v ∧ OwnG 47 6 egL w' w.heap.size v E ∧ Since w w' ∧ E.Pairwise LtE ∧ ∀ x, x ∈ E ↔ V x.a x.b = some (x.m, x.n) ∧ ¬ (x.m = 0 ∧ x.n = 0)
set_option maxRecDepth 100000 in
set_option maxHeartbeats 8000000 in
theorem sn_sorted (bm m2 : Nat) (V : Pq → Pq → Option (Int × Int)) (w : World) (hM : MapQ w bm m2 V) (hS : SupQ V) (hm2 : m2 ≤ 100000000) (hI : ∀ a b v, V a b = some v → (-2147483648 ≤ v.1 ∧ v.1 ≤ 2147483647) ∧ (-2147483648 ≤ v.2 ∧ v.2 ≤ 2147483647)) :
    Calls Tryz.prog 40 #[.map (some bm)] w fun e w' => SortP w V e w' := by
  obtain ⟨D, hD, hT⟩ := hM
  have hsz : Maps.size D ≤ m2 := hD.size_le
  generalize hSZ : Maps.size D = sz at *
  have HSZ := Lib.hid hSZ; have HT := Lib.hid hT; have HS := Lib.hid hS; have HI := Lib.hid hI
  clear hSZ hT hS hI
  go_enter Tryz.func40, Tryz.ntmps40
  go_upto_region 2 with (first | (at_len; refine wpList_len_own _ rfl _ 77 rfl 82 85 Tryz.underlying77 mnE bm m2 _ rfl hD ?_; rw [HSZ.out]) | (obtain ⟨i0, z0, hi0, hz0, hz1, hz2, hz3⟩ := infoEg; refine wpList_make_own _ rfl _ _ 36 rfl w.heap.size 47 i0 z0 6 Tryz.underlying36 hi0 hz0 hz1 _ _ _ sz rfl rfl rfl (by rw [hz2]; omega) (by unfold maxLen; omega) (Nat.le_refl _) ?_; clear hi0 hz0 hz1 hz2 hz3; intro w3 hO3 hg3))
  have hT3 : Since w w3 := since_grown (Since.refl _) hg3 (fun k hk => by cases hk)
  have hD3 := map_since hD hT3
  clear hD hg3
  go_wp2_with (first | (at_range; refine wpList_range_own _ rfl _ 77 rfl 82 85 lawPc Tryz.underlying77 mnE bm m2 _ rfl hD3 ?_; intro v9 hrg hgr9 hsz9))
  go_frame
  have hT9 : Since w3 v9 := since_grown (Since.refl _) hgr9 (fun k hk => by cases hk)
  have hO9 : OwnG 47 6 egL v9 w.heap.size (.slice (some ⟨w.heap.size, 0, none⟩) 0 sz) [] := OwnG.since (show OwnG 47 6 egL w3 w.heap.size (.slice (some ⟨w.heap.size, 0, none⟩) 0 sz) [] from hO3) hT9
  have hS9 := hT3.trans hT9
  have hbr : w.heap.size ≤ w3.heap.size := hT3.below.size
  clear hgr9 hsz9 hD3 hO3 hT9 hT3
  generalize w3.heap.size = r at *
  have HH0 := Lib.hid (edgH_start HT.out HS.out)
  rw [HSZ.out] at hrg
  go_loopw [3] (fun y wv => ∃ (left : Lit → Bool) (cnt : Nat) (L : List Eg), wv.ranges Tryz.prog 82 mnE bm r m2 D left cnt ∧ OwnG 47 6 egL wv w.heap.size y L ∧ Since w wv ∧ Hid (EdgH V left L) ∧ L.length + cnt ≤ sz) (fun _ wv => wv.rangeLeft bm r)
  case atStart => exact ⟨_, _, [], hrg, hO9, hS9, HH0, by simp⟩
  case round =>
    obtain ⟨left, cnt, L, hrg, hO, hS, HH, hlen⟩ := hrel
    clear hO9 hS9 HH0
    go_wp2_with (first | (at_next; refine wpList_next_ranges _ rfl _ rfl 82 lawPc mnE (fun x : Pq × Pq => pcV x.1 x.2) mnV invPc invMn bm r m2 _ _ _ rfl hrg ?_ ?_))
    · intro hc0 hl0
      have hfin := HH.out.done hl0
      have hnd := HH.out.1
      have hkeys := edg_keys hnd (fun e he => ((hfin e).1 he).1)
      have HF := Lib.hid hfin; have HK := Lib.hid hkeys
      clear hc0 hl0 hrg hfin hkeys hnd
      go_wp2_with (go_at_call 74; (with_reducible refine (sn_sortE w _ w.heap.size _ L hS (Nat.le_refl _) hO (by omega)).mono ?_); rintro e w6 ⟨⟨u6, rfl⟩, L2, hp2, hs2, hO6, hS6⟩)
      go_ret
      exact ⟨_, L2, rfl, hO6, hS6, strictE hp2 hs2 HK.out, fun e => (hp2.mem_iff).trans (HF.out e)⟩
    · intro p q m n kl y1 y2 w5 cnt5 hkey hlk hv hat hrg5 hlt hgr5 hsz5 hen
      obtain ⟨p', q', ek, rfl, wp, wq⟩ := keyOf_pc_inv hkey
      obtain ⟨rfl, rfl⟩ := pcV_inj ek
      have hy : y1 = mnD (m, n) := by
        rw [mnE_mk] at hv
        injection hv with hv
        injection hv with hv _
        exact hv.symm
      have hV : V p' q' = some (m, n) := by
        have hh := Maps.has_true_of_atKey hat
        rw [HT.out.2.2 _ _ wp wq] at hh
        obtain ⟨v, hv1⟩ := Option.isSome_iff_exists.1 hh
        have h2 := HT.out.2.1 _ _ wp wq
        rw [hat, hy, hv1] at h2
        rw [hv1, mnD_inj h2]; rfl
      have HH5 := Lib.hid (HH.out.step HS.out wp wq hV hlk)
      obtain ⟨px, qx⟩ := HS.out _ _ _ hV
      obtain ⟨ix, iy⟩ := HI.out _ _ _ hV
      have hO5 := hO.grown hgr5 (fun q hq e => (hO.ne_iter hq hrg) (by injection e))
      have hS5 : Since w w5 := since_grown hS hgr5 (fun k hk => by injection hk with hk; omega)
      have HLT : Hid (w5.rangeLeft bm r < wr.rangeLeft bm r) := Lib.hid (by rw [hrg5.left_eq, hrg.left_eq]; exact hlt)
      have HRG := Lib.hid hrg5
      have hlen5 : L.length + 1 + cnt5 ≤ sz := by omega
      have hr5 : r < w5.heap.size := hrg5.lt
      obtain ⟨ax, ay⟩ := p'
      obtain ⟨bx, bz⟩ := q'
      unfold pcV mnV at hen
      simp only at hen ix iy HH5
      clear ek hkey hlk hv hat hrg5 hlt hgr5 hsz5 hrg hO hS HH hy hV wp wq hlen
      go_upto_region 5 with fail
      refine wp_named fun wa hwa => ?_
      have hTa : Since w5 wa := by subst hwa; (repeat (first | with_reducible (exact Since.refl _) | with_reducible assumption | with_reducible (refine Since.drew ?_) | with_reducible (refine Since.drewN ?_ _) | with_reducible (refine Since.alloc ?_ _) | (with_reducible (refine Since.setCell ?_ ?_ _); rotate_left; focus (first | (simp; done) | (simp; omega) | omega)) | (with_reducible (refine Since.trans ?_ (by with_reducible assumption)))))
      have hKr : Row wa w5.heap.size 4 (Qf ax ay bx bz) := by subst hwa; exact (qrow w5 _ rfl _ ax ay bx bz).alloc _
      have hVr : Row wa (w5.heap.size + 1) 2 (Sf m n) := by subst hwa; exact srow _ (w5.heap.size + 1) (by simp) _ m n
      have hRa := Lib.hid (HRG.out.kept (grown_of_since hTa) (by simp) (by simp))
      have hOa := hO5.since hTa
      have hSa := hS5.trans hTa
      have heq := eq_mn
      have hbz := hSa.below.size
      have hqb := fun (b : Nat) (hb : w5.heap.size ≤ b) (hq : Value.ownBlock _ = some b) => Nat.lt_irrefl _ (Nat.lt_of_lt_of_le (hO5.lt hq).2 hb)
      clear hwa hTa hO5 hS5
      generalize w5.heap.size = bk at *
      obtain ⟨k0, k1, k2, k3, k4⟩ := qcells hKr
      obtain ⟨v0, v1, v2⟩ := scells hVr
      by_cases hmn : m = 0 ∧ n = 0
      · have g1 : (m == 0 && n == 0) = true := by simp [hmn.1, hmn.2]
        rw [if_pos hmn] at HH5
        have hO7 := Lib.hid hOa; have hS7 := Lib.hid hSa
        clear hmn hOa hSa hKr hVr
        go_wp2
        go_roundw
        case rel => exact ⟨_, _, L, hRa.out, hO7.out, hS7.out, HH5, by omega⟩
        case measure =>
          rw [hRa.out.left_eq, ← HRG.out.left_eq]
          exact HLT.out
      · have g1 : (m == 0 && n == 0) = false := by
          cases h : (m == 0 && n == 0)
          · rfl
          · simp only [Bool.and_eq_true, beq_iff_eq] at h; exact absurd h hmn
        rw [if_neg hmn] at HH5
        have hA := fun w => sn_point ax ay ⟨px.1, px.2.1⟩ ⟨px.2.2.1, px.2.2.2⟩ w
        have hB := fun w => sn_point bx bz ⟨qx.1, qx.2.1⟩ ⟨qx.2.2.1, qx.2.2.2⟩ w
        have u1 : IntKind.i64.wrap m = m := IntWalk.i64_in _ (by omega)
        have u2 : IntKind.i64.wrap n = n := IntWalk.i64_in _ (by omega)
        unfold Pt at hA hB
        have HA := Lib.hid hA; have HB := Lib.hid hB
        clear hmn hA hB px qx ix iy
        have hO7 := Lib.hid hOa; have hS7 := Lib.hid hSa
        clear hOa hSa
        have tok1 := True.intro
        have HK0 := Lib.hid k0; have HK1 := Lib.hid k1; have HK2 := Lib.hid k2; have HK3 := Lib.hid k3; have HV0 := Lib.hid v0; have HV1 := Lib.hid v1
        go_upto_region 6 with fail
        have HQ := Lib.hid hO7
        go_region_held3 (fun w' => w'.cell? ⟨bk, 0, none⟩ = some (.int .i32 ax) ∧ w'.cell? ⟨bk, 1, none⟩ = some (.int .i32 ay) ∧ w'.cell? ⟨bk, 2, none⟩ = some (.int .i32 bx) ∧ w'.cell? ⟨bk, 3, none⟩ = some (.int .i32 bz) ∧ w'.cell? ⟨bk + 1, 0, none⟩ = some (.int .i32 m) ∧ w'.cell? ⟨bk + 1, 1, none⟩ = some (.int .i32 n)) ((refine ⟨?_, ?_, ?_, ?_, ?_, ?_⟩ <;> (first | with_reducible assumption | ((repeat (first | rw [cell_drew9] | (rw [cell_alloc9]; rotate_left; focus (first | with_reducible assumption | (simp; done) | (simp; omega))))); with_reducible assumption)))) ((first | (rw [if_pos (by rfl)]; refine oper_append_g (.tmp 19) (.tmp 34) 36 47 (by rfl) (by omega) egL_len egL_one 48 Tryz.underlying36 infoEg w.heap.size _ L (by rfl) (show OwnG 47 6 egL (w2.alloc _) _ _ _ from OwnG.alloc (hO7.out.since hT2) _) _ _ 1 _ [⟨⟨ax, ay⟩, ⟨bx, bz⟩, m, n⟩] rfl (by rfl) (show RdG 6 egL (w2.alloc _) _ _ _ from eg_one w2 _ rfl _ ⟨⟨ax, ay⟩, ⟨bx, bz⟩, m, n⟩) ?_ ?_ ?_ ?_; (focus (simp only [List.length_cons, List.length_nil]; omega)); (focus (simp only [List.length_cons, List.length_nil, maxLen]; omega)); (focus (have := hT2.below.size; simp; omega)); intro v7 w7 hO8 hg8 hb8; have gk0 := cell_far (by (repeat (first | with_reducible (exact Since.refl _) | with_reducible assumption | with_reducible (refine Since.drew ?_) | with_reducible (refine Since.drewN ?_ _) | with_reducible (refine Since.alloc ?_ _) | (with_reducible (refine Since.setCell ?_ ?_ _); rotate_left; focus (first | (simp; done) | (simp; omega) | omega)) | (with_reducible (refine Since.trans ?_ (by with_reducible assumption)))))) hg8 k4 (hqb _ (by omega)) HK0.out; have gk1 := cell_far (by (repeat (first | with_reducible (exact Since.refl _) | with_reducible assumption | with_reducible (refine Since.drew ?_) | with_reducible (refine Since.drewN ?_ _) | with_reducible (refine Since.alloc ?_ _) | (with_reducible (refine Since.setCell ?_ ?_ _); rotate_left; focus (first | (simp; done) | (simp; omega) | omega)) | (with_reducible (refine Since.trans ?_ (by with_reducible assumption)))))) hg8 k4 (hqb _ (by omega)) HK1.out; have gk2 := cell_far (by (repeat (first | with_reducible (exact Since.refl _) | with_reducible assumption | with_reducible (refine Since.drew ?_) | with_reducible (refine Since.drewN ?_ _) | with_reducible (refine Since.alloc ?_ _) | (with_reducible (refine Since.setCell ?_ ?_ _); rotate_left; focus (first | (simp; done) | (simp; omega) | omega)) | (with_reducible (refine Since.trans ?_ (by with_reducible assumption)))))) hg8 k4 (hqb _ (by omega)) HK2.out; have gk3 := cell_far (by (repeat (first | with_reducible (exact Since.refl _) | with_reducible assumption | with_reducible (refine Since.drew ?_) | with_reducible (refine Since.drewN ?_ _) | with_reducible (refine Since.alloc ?_ _) | (with_reducible (refine Since.setCell ?_ ?_ _); rotate_left; focus (first | (simp; done) | (simp; omega) | omega)) | (with_reducible (refine Since.trans ?_ (by with_reducible assumption)))))) hg8 k4 (hqb _ (by omega)) HK3.out; have gv0 := cell_far (by (repeat (first | with_reducible (exact Since.refl _) | with_reducible assumption | with_reducible (refine Since.drew ?_) | with_reducible (refine Since.drewN ?_ _) | with_reducible (refine Since.alloc ?_ _) | (with_reducible (refine Since.setCell ?_ ?_ _); rotate_left; focus (first | (simp; done) | (simp; omega) | omega)) | (with_reducible (refine Since.trans ?_ (by with_reducible assumption)))))) hg8 v2 (hqb _ (by omega)) HV0.out; have gv1 := cell_far (by (repeat (first | with_reducible (exact Since.refl _) | with_reducible assumption | with_reducible (refine Since.drew ?_) | with_reducible (refine Since.drewN ?_ _) | with_reducible (refine Since.alloc ?_ _) | (with_reducible (refine Since.setCell ?_ ?_ _); rotate_left; focus (first | (simp; done) | (simp; omega) | omega)) | (with_reducible (refine Since.trans ?_ (by with_reducible assumption)))))) hg8 v2 (hqb _ (by omega)) HV1.out; clear k0 k1 k2 k3 v0 v1; have k0 := gk0; have k1 := gk1; have k2 := gk2; have k3 := gk3; have v0 := gv0; have v1 := gv1; clear gk0 gk1 gk2 gk3 gv0 gv1; obtain ⟨hR8, hS8⟩ := sort_step hRa.out hO7.out hS7.out (by (repeat (first | with_reducible (exact Since.refl _) | with_reducible assumption | with_reducible (refine Since.drew ?_) | with_reducible (refine Since.drewN ?_ _) | with_reducible (refine Since.alloc ?_ _) | (with_reducible (refine Since.setCell ?_ ?_ _); rotate_left; focus (first | (simp; done) | (simp; omega) | omega)) | (with_reducible (refine Since.trans ?_ (by with_reducible assumption)))))) hg8) | (go_at_call 73; have _t := tok1; (with_reducible refine (HA.out _).mono ?_); rintro e w1 ⟨rfl, hS1⟩; have hT1 : Since wa w1 := (by (repeat (first | with_reducible (exact Since.refl _) | with_reducible assumption | with_reducible (refine Since.drew ?_) | with_reducible (refine Since.drewN ?_ _) | with_reducible (refine Since.alloc ?_ _) | (with_reducible (refine Since.setCell ?_ ?_ _); rotate_left; focus (first | (simp; done) | (simp; omega) | omega)) | (with_reducible (refine Since.trans ?_ (by with_reducible assumption)))))); have gk0 := (hT1.1 _ _ k4).trans HK0.out; have gk1 := (hT1.1 _ _ k4).trans HK1.out; have gk2 := (hT1.1 _ _ k4).trans HK2.out; have gk3 := (hT1.1 _ _ k4).trans HK3.out; have gv0 := (hT1.1 _ _ v2).trans HV0.out; have gv1 := (hT1.1 _ _ v2).trans HV1.out; clear k0 k1 k2 k3 v0 v1; have k0 := gk0; have k1 := gk1; have k2 := gk2; have k3 := gk3; have v0 := gv0; have v1 := gv1; clear gk0 gk1 gk2 gk3 gv0 gv1; clear tok1) | (go_at_call 73; (with_reducible refine (HB.out _).mono ?_); rintro e w2 ⟨rfl, hS2⟩; have hT2 : Since wa w2 := (by (repeat (first | with_reducible (exact Since.refl _) | with_reducible assumption | with_reducible (refine Since.drew ?_) | with_reducible (refine Since.drewN ?_ _) | with_reducible (refine Since.alloc ?_ _) | (with_reducible (refine Since.setCell ?_ ?_ _); rotate_left; focus (first | (simp; done) | (simp; omega) | omega)) | (with_reducible (refine Since.trans ?_ (by with_reducible assumption)))))); have y4 := hT2.2.2.1 _ k4; have y2 := hT2.2.2.1 _ v2; have gk0 := (hT2.1 _ _ k4).trans HK0.out; have gk1 := (hT2.1 _ _ k4).trans HK1.out; have gk2 := (hT2.1 _ _ k4).trans HK2.out; have gk3 := (hT2.1 _ _ k4).trans HK3.out; have gv0 := (hT2.1 _ _ v2).trans HV0.out; have gv1 := (hT2.1 _ _ v2).trans HV1.out; clear k0 k1 k2 k3 v0 v1; have k0 := gk0; have k1 := gk1; have k2 := gk2; have k3 := gk3; have v0 := gv0; have v1 := gv1; clear gk0 gk1 gk2 gk3 gv0 gv1)))
        have HR8 := Lib.hid hR8; have HO8 := Lib.hid hO8; have HS8 := Lib.hid hS8
        clear hR8 hO8 hS8 hg8 hb8
        go_roundw
        case rel => first | exact (⟨_, _, _, HR8.out, HO8.out, HS8.out, HH5, by simp only [List.length_append, List.length_cons, List.length_nil]; omega⟩) | ((repeat apply Exists.intro); refine ⟨?_, rfl⟩; exact (⟨_, _, _, HR8.out, HO8.out, HS8.out, HH5, by simp only [List.length_append, List.length_cons, List.length_nil]; omega⟩))
        case measure =>
          rw [HR8.out.left_eq, ← HRG.out.left_eq]
          exact HLT.out
end Go.Proofs.YtcfghkphkmoikaaGreat
