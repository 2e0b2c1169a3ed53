/-
  Texts of this seat, put together: each with its own head.
-/
import Derived.Test.YteckkcpnfeoehaaGreatDoorMnAj
import Derived.Test.YteckkcpnfeoehaaGreatDoorMpA
import Derived.Test.YteckkcpnfeoehaaGreatDoorKitT
import Derived.Lib.AppendStr
import Derived.Laws.IdiomCopy
import Derived.Test.YteckkcpnfeoehaaGreatDoorMpD
import Derived.Test.YteckkcpnfeoehaaGreatDoorMnAd
import Derived.Laws.IdiomStrings
import Derived.Test.YteckkcpnfeoehaaGreatDoorMpC
import Derived.Test.YteckkcpnfeoehaaGreatDoorMpE

/-
  Layer 4: what the loop of Write holds; append of a string's bytes; Pad and Sum told by lists.
-/
namespace Go.Proofs.YteckkcpnfeoehaaGreatDoor
set_option maxRecDepth 100000
open Go.RowKit Go.ChangeShapes Go.WideShapes Go.Deep
set_option linter.unusedVariables false
set_option linter.unusedSimpArgs false

theorem strCells_tag (s : ByteArray) : Lib.strCells s = cellsG byL (tagB s) := by
  unfold Lib.strCells cellsG tagB
  rw [List.flatMap_map]
  induction s.data.toList with
  | nil => rfl
  | cons a l ih => rw [List.map_cons, ih, List.flatMap_cons]; rfl
/-- append of a string's bytes to bytes of the call's own; where they lie then. -/
theorem wpList_append_s {w w0 : World} {ops : Array Oper} {rest : List Oper} {o : Oper} {a : Act} {Q : Exit → Act → World → Prop} (hgd : o.guard = none) (sl x : Operand)
    (ho : o.op = .call { callee := .builtin .append, args := #[sl, x], argTypes := #[34, 9] })
    (hS : Since w0 w) (v : Value) (L : List Int) (hs : a.eval sl = v) (hown : OwnB w w0.heap.size v L) (s : ByteArray) (hx : a.eval x = .string s) (hbytes : L.length + s.size ≤ 140737488355328)
    (h : ∀ v' w', OwnB w' w0.heap.size v' (L ++ tagB s) → Since w0 w' → w.grownBy w' v.ownBlock → (v'.ownBlock = v.ownBlock ∨ v'.ownBlock = some w.heap.size) → wpList Tryz.prog ops Q rest (a.put o.dst v') w') :
    wpList Tryz.prog ops Q (o :: rest) a w := by
  refine wpList_plain hgd fun K hK => ?_
  obtain ⟨i0, hi, hz0, hz1, hz2⟩ := info_parts Tryz.info_u8
  have h63 : L.length + s.size ≤ maxLen := by simp only [maxLen]; omega
  have hown' := hown
  unfold OwnB OwnG at hown'
  obtain ⟨v', w', hr, h2, h3, h4⟩ := Lib.run_append_own_string (P := Tryz.prog) w w0.heap.size 34 9 o.type 5 i0 Tryz.underlying34 Tryz.underlying9 hi hz0 hz1 hz2 v L.length (cellsG byL L) hown' s h63 hbytes hS.below.size
  have hlt := fun q (hq : v.ownBlock = some q) => hown.lt hq
  have hloc : v'.ownBlock = v.ownBlock ∨ v'.ownBlock = some w.heap.size := by
    rcases hown'.2 with ⟨rfl, h0⟩ | ⟨g, cap, cur, rfl, hbg, hg, hnc, hcm, hcs, htake⟩
    · by_cases hm : s.size = 0
      · have := h4.2 ⟨rfl, hm⟩
        subst this; exact .inl rfl
      · have hr2 := run_append_nil_string (P := Tryz.prog) w 34 9 o.type 5 i0 (.int .u8 0) Tryz.underlying34 Tryz.underlying9 hi hz0 s (by omega) (by omega) (by rw [hz2]; omega)
        rw [hr] at hr2
        injection hr2 with e _
        subst e; exact .inr rfl
    · by_cases hroom : L.length + s.size ≤ cap
      · have hcur : cur.size = cap := by simpa using hcs
        have hr2 := Lib.run_append_room_string (P := Tryz.prog) w 34 9 o.type 5 i0 Tryz.underlying34 Tryz.underlying9 hi hz1 g L.length cap cur hg s hroom (by omega)
        rw [hr] at hr2
        injection hr2 with e _
        subst e; exact .inl rfl
      · have hr2 := Lib.run_append_grow_string (P := Tryz.prog) w 34 9 o.type 5 i0 (.int .u8 0) Tryz.underlying34 Tryz.underlying9 hi hz0 ⟨g, 0, none⟩ L.length cap (cellsG byL L) (by rw [hz1, cellsG_len byL_len]) (hown'.cells (g := g) rfl) s (by omega) (by omega) (by rw [hz2]; exact growslice_fits (by omega) (by omega))
        rw [hr] at hr2
        injection hr2 with e _
        subst e; exact .inr rfl
  unfold Oper.wp execOp
  simp only [ho, resolve, invoke, builtin, Sem.run_bind, Sem.run_pure, Result.andThen_ok, List.map_toArray, List.map_cons, List.map_nil, hs, hx, hr]
  refine hK _ _ (h v' w' ?_ (since_grown hS h3 (fun q hq => (hlt q hq).1)) h3 hloc)
  unfold OwnB OwnG
  rw [strCells_tag, ← cellsG_append] at h2
  rw [List.length_append, tagB_len]
  exact h2
/-- append of bytes to bytes of the call's own; where they lie then. -/
theorem wpList_append_b4 {w w0 : World} {ops : Array Oper} {rest : List Oper} {o : Oper} {a : Act} {Q : Exit → Act → World → Prop} (hgd : o.guard = none) (s x : Operand)
    (ho : o.op = .call { callee := .builtin .append, args := #[s, x], argTypes := #[34, 34] })
    (hS : Since w0 w) (v : Value) (L : List Int) (hs : a.eval s = v) (hown : OwnB w w0.heap.size v L) (B : Nat) (A : Option Addr) (n c : Nat) (M : List Int) (hn : n = M.length) (hx : a.eval x = .slice A n c) (hr : RdB w B A M)
    (hbytes : L.length + M.length ≤ 140737488355328)
    (h : ∀ v' w', OwnB w' w0.heap.size v' (L ++ M) → Since w0 w' → w.grownBy w' v.ownBlock → (v'.ownBlock = v.ownBlock ∨ v'.ownBlock = some w.heap.size) → wpList Tryz.prog ops Q rest (a.put o.dst v') w') :
    wpList Tryz.prog ops Q (o :: rest) a w := by
  subst hn
  exact wpList_append_w hgd s x 34 34 5 5 ho (by omega) byL_len byL_one 1 Tryz.underlying34 Tryz.underlying34 infoBy w0.heap.size v L hs hown B A c M hx hr (by omega) (by simp only [maxLen]; omega) hS.below.size (fun v' w' h9 hg hlt hw => h v' w' h9 (since_grown hS hg (fun k hk => (hlt k hk).1)) hg hw)
/-- The two rows that Write makes, a table's data, and the table's box. -/
structure Wr4 (w : World) (vb vy vd : Value) (BL YL DL : List Int) (gx : Nat) (s : ByteArray) (A : Option Addr) (n c : Nat) (wr : World) : Prop where
  b : OwnB wr w.heap.size vb BL
  y : OwnB wr w.heap.size vy YL
  d : OwnB wr w.heap.size vd DL
  by_ : Apart7 vb vy
  bd : Apart7 vb vd
  yd : Apart7 vy vd
  x0 : wr.cell? ⟨gx, 0, none⟩ = some (.string s)
  x1 : wr.cell? ⟨gx, 1, none⟩ = some (.slice A n c)
  xz : gx < wr.heap.size
  xb : vb.ownBlock ≠ some gx
  xy : vy.ownBlock ≠ some gx
  s : Since w wr
section
variable {w wr w' : World} {vb vy vd v' : Value} {BL YL DL G : List Int} {gx n c : Nat} {s : ByteArray} {A : Option Addr}
theorem Wr4.since (h : Wr4 w vb vy vd BL YL DL gx s A n c wr) (k : Since wr w') : Wr4 w vb vy vd BL YL DL gx s A n c w' :=
  ⟨h.b.since k, h.y.since k, h.d.since k, h.by_, h.bd, h.yd, (k.1 _ _ h.xz).trans h.x0, (k.1 _ _ h.xz).trans h.x1, k.2.2.1 _ h.xz, h.xb, h.xy, h.s.trans k⟩
theorem ne_loc {gx : Nat} {v v' : Value} {w : World} (h : v.ownBlock ≠ some gx) (hz : gx < w.heap.size) (hl : v'.ownBlock = v.ownBlock ∨ v'.ownBlock = some w.heap.size) : v'.ownBlock ≠ some gx := fun e => by
  rcases hl with h1 | h1
  · exact h (by rw [← h1]; exact e)
  · rw [h1] at e; injection e with e; omega
theorem Wr4.growB (h : Wr4 w vb vy vd BL YL DL gx s A n c wr) (hO : OwnB w' w.heap.size v' G) (hS : Since w w') (hg : wr.grownBy w' vb.ownBlock) (hl : v'.ownBlock = vb.ownBlock ∨ v'.ownBlock = some wr.heap.size) : Wr4 w v' vy vd G YL DL gx s A n c w' :=
  ⟨hO, OwnG.grown h.y hg (fun q hq e => h.by_ q e hq), OwnG.grown h.d hg (fun q hq e => h.bd q e hq), h.by_.grow h.y hl, h.bd.grow h.d hl, h.yd, cell_grown h.x0 h.xz hg h.xb, cell_grown h.x1 h.xz hg h.xb, Nat.lt_of_lt_of_le h.xz hg.size, ne_loc h.xb h.xz hl, h.xy, hS⟩
theorem Wr4.growY (h : Wr4 w vb vy vd BL YL DL gx s A n c wr) (hO : OwnB w' w.heap.size v' G) (hS : Since w w') (hg : wr.grownBy w' vy.ownBlock) (hl : v'.ownBlock = vy.ownBlock ∨ v'.ownBlock = some wr.heap.size) : Wr4 w vb v' vd BL G DL gx s A n c w' :=
  ⟨OwnG.grown h.b hg (fun q hq e => h.by_ q hq e), hO, OwnG.grown h.d hg (fun q hq e => h.yd q e hq), (h.by_.symm.grow h.b hl).symm, h.bd, h.yd.grow h.d hl, cell_grown h.x0 h.xz hg h.xy, cell_grown h.x1 h.xz hg h.xy, Nat.lt_of_lt_of_le h.xz hg.size, h.xb, ne_loc h.xy h.xz hl, hS⟩
end
theorem sf_sum (A : Option Addr) (n c : Nat) (L : List Int) (w : World) (h : RdB w w.heap.size A L) (hn : n = L.length) (hb : Bytes L) (hx : n ≤ 140737488355328) :
    Calls Tryz.prog 65 #[.slice A n c] w fun e w' => e = .returned (.int .u32 (sumI L)) ∧ w' = w := by
  subst hn
  exact ts_sum A L.length c (fnL L) w (rdb_rd h) (bytes_fn hb) hx
theorem rf_sum4 (A : Option Addr) (n c : Nat) (L : List Int) (w : World) (h : RdB w w.heap.size A L) (hn : n = L.length) (hb : Bytes L) (hx : n ≤ 140737488355328) :
    Calls Tryz.prog 80 #[.slice A n c] w fun e w' => e = .returned (.int .u32 (sumI L)) ∧ w' = w := by
  subst hn
  exact ref_sum A L.length c (fnL L) w (rdb_rd h) (bytes_fn hb) hx
theorem sumI_range (L : List Int) : 0 ≤ sumI L ∧ sumI L < 4294967296 := accu_range (by omega) _
end Go.Proofs.YteckkcpnfeoehaaGreatDoor

/-
  Layer 4: how long a font's bytes are, which they are; Pad told by lists; 'copy' of four bytes.
-/
namespace Go.Proofs.YteckkcpnfeoehaaGreatDoor
set_option maxRecDepth 100000
open Go.RowKit Go.ChangeShapes Go.WideShapes Go.Deep
set_option linter.unusedVariables false
set_option linter.unusedSimpArgs false

theorem dir4_len (n : Nat) : (dir4 n).length = 12 := by unfold dir4; simp only [List.length_append, putL_len]
theorem ents4_len : ∀ (TT : List Tb) (a : Nat), (∀ T, T ∈ TT → T.tag.size = 4) → (ents4 a TT).length = 16 * TT.length := by
  intro TT
  induction TT with
  | nil => intro a h; rfl
  | cons T r ih =>
    intro a h
    unfold ents4 ent4
    simp only [List.length_append, putL_len, tagB_len, List.length_cons]
    rw [ih _ (fun U hU => h U (by simp [hU])), h T (by simp)]
    omega
theorem body4_len : ∀ (TT : List Tb) (a : Nat), a + (body4 TT).length = end4 a TT := by
  intro TT
  induction TT with
  | nil => intro a; rfl
  | cons T r ih =>
    intro a
    have h1 := ih a
    unfold body4 end4 at *
    rw [List.flatMap_cons, List.length_append, padL_len, blank4_len, List.map_cons, List.sum_cons]
    omega
theorem raw4_len {TT : List Tb} (h : ∀ T, T ∈ TT → T.tag.size = 4) : (raw4 TT).length = size4 TT := by
  unfold raw4 size4
  rw [List.length_append, List.length_append, dir4_len, ents4_len _ _ h, ← body4_len]
theorem adj4_ok : ∀ (TT : List Tb) (x : Int) (a : Nat), adj4 x a TT = x ∨ ((a : Int) + 8 ≤ adj4 x a TT ∧ adj4 x a TT + 4 ≤ (end4 a TT : Int)) := by
  intro TT
  induction TT with
  | nil => intro x a; exact .inl rfl
  | cons T r ih =>
    intro x a
    have e : end4 (a + pad4 T.data.length) r = end4 a (T :: r) := by unfold end4; rw [List.map_cons, List.sum_cons, Nat.add_assoc]
    have e2 : a + pad4 T.data.length ≤ end4 a (T :: r) := by rw [← e]; unfold end4; omega
    have hp := pad4_le T.data.length
    unfold adj4
    by_cases hT : adjT T = true
    · have h12 : 12 ≤ T.data.length := by
        unfold adjT at hT
        rw [Bool.and_eq_true] at hT
        exact of_decide_eq_true hT.2
      rw [if_pos hT]
      rcases ih ((a : Int) + 8) (a + pad4 T.data.length) with h | ⟨h1, h2⟩
      · right; rw [h]; omega
      · right; rw [e] at h2; omega
    · rw [if_neg hT]
      rcases ih x (a + pad4 T.data.length) with h | ⟨h1, h2⟩
      · exact .inl h
      · right; rw [e] at h2; omega
theorem bytes_tag (s : ByteArray) : Bytes (tagB s) := by
  intro v hv
  unfold tagB at hv
  rw [List.mem_map] at hv
  obtain ⟨b, _, rfl⟩ := hv
  have := b.toNat_lt
  omega
theorem bytes_ents : ∀ (TT : List Tb) (a : Nat), Bytes (ents4 a TT) := by
  intro TT
  induction TT with
  | nil => intro a v hv; cases hv
  | cons T r ih =>
    intro a
    unfold ents4 ent4
    exact bytes_app (bytes_app (bytes_tag _) (bytes_app (bytes_put _ _) (bytes_app (bytes_put _ _) (bytes_put _ _)))) (ih _)
theorem bytes_body {TT : List Tb} (h : ∀ T, T ∈ TT → Bytes T.data) : Bytes (body4 TT) := by
  intro v hv
  unfold body4 at hv
  rw [List.mem_flatMap] at hv
  obtain ⟨T, hT, hv⟩ := hv
  exact bytes_pad (bytes_blank (h T hT)) v hv
theorem bytes_raw {TT : List Tb} (h : ∀ T, T ∈ TT → Bytes T.data) : Bytes (raw4 TT) := by
  unfold raw4 dir4
  exact bytes_app (bytes_app (bytes_app (bytes_put _ _) (bytes_app (bytes_put _ _) (bytes_app (bytes_put _ _) (bytes_app (bytes_put _ _) (bytes_put _ _))))) (bytes_ents _ _)) (bytes_body h)
theorem pad4_is (n : Nat) : n + missing n (clampT 4) = pad4 n := by
  have h : clampT 4 = 4 := rfl
  rw [h]; unfold missing pad4; omega
theorem padTo_is (L : List Int) (j : Nat) (hj : j < pad4 L.length) : padTo L.length (fnL L) j = fnL (padL L) j := by
  unfold padTo fnL padL
  by_cases h : j < L.length
  · rw [if_pos h, List.getD_eq_getElem?_getD, List.getD_eq_getElem?_getD, List.getElem?_append_left h]
  · rw [if_neg h, List.getD_eq_getElem?_getD, List.getElem?_append_right (by omega), List.getElem?_replicate, if_pos (by omega)]; rfl
theorem sf_pad (A : Option Addr) (n c : Nat) (L : List Int) (w : World) (h : RdB w w.heap.size A L) (hn : n = L.length) (hx : n ≤ 140737488355328) :
    Calls Tryz.prog 66 #[.slice A n c, .int .i64 4] w fun e w' => ∃ g, e = .returned (.slice (some ⟨g, 0, none⟩) (pad4 n) (pad4 n)) ∧ w.heap.size ≤ g ∧ RdB w' w'.heap.size (some ⟨g, 0, none⟩) (padL L) ∧ Since w w' := by
  subst hn
  refine (be_pad A L.length c (fnL L) 4 w (rdb_rd h) (by unfold In64; omega) hx).mono ?_
  rintro e w' ⟨g, rfl, hg, hr, hS⟩
  rw [pad4_is] at hr ⊢
  have hp := pad4_le L.length
  refine ⟨g, rfl, hg, fun h0 => ?_, hS⟩
  have hp0 : 0 < pad4 L.length := by rw [← padL_len]; exact h0
  exact rdb_of (fun hh => Rd.of_row hr hh) (padL_len L).symm (padTo_is L) h0
theorem rf_pad (A : Option Addr) (n c : Nat) (L : List Int) (w : World) (h : RdB w w.heap.size A L) (hn : n = L.length) (hx : n ≤ 140737488351232) :
    Calls Tryz.prog 81 #[.slice A n c, .int .i64 4] w fun e w' => ∃ g d, e = .returned (.slice (some ⟨g, 0, none⟩) (pad4 n) d) ∧ w.heap.size ≤ g ∧ RdB w' w'.heap.size (some ⟨g, 0, none⟩) (padL L) ∧ Since w w' := by
  subst hn
  refine (ref_pad A L.length c (fnL L) 4 w (rdb_rd h) (by unfold In64; omega) hx).mono ?_
  rintro e w' ⟨g, d, rfl, hg, hr, hS⟩
  rw [pad4_is] at hr ⊢
  refine ⟨g, d, rfl, hg, fun h0 => ?_, hS⟩
  have hp0 : 0 < pad4 L.length := by rw [← padL_len]; exact h0
  exact rdb_of (fun hh => Rd.of_row hr hh) (padL_len L).symm (padTo_is L) h0
theorem set4_at : ∀ (p : Nat) (L : List Int) (a b c d : Int), p + 4 ≤ L.length → (((L.set p a).set (p + 1) b).set (p + 2) c).set (p + 3) d = layL L p [a, b, c, d] := by
  intro p
  induction p with
  | zero =>
    intro L a b c d h
    rcases L with _ | ⟨x, _ | ⟨y, _ | ⟨z, _ | ⟨u, r⟩⟩⟩⟩ <;> first | rfl | (simp at h; omega) | (simp at h)
  | succ p ih =>
    intro L a b c d h
    cases L with
    | nil => simp at h
    | cons x r =>
      have h1 := ih r a b c d (by simpa using h)
      have e1 : p + 1 + 1 = (p + 1) + 1 := rfl
      have e2 : p + 1 + 2 = (p + 2) + 1 := by omega
      have e3 : p + 1 + 3 = (p + 3) + 1 := by omega
      rw [e2, e3, List.set_cons_succ, List.set_cons_succ, List.set_cons_succ, List.set_cons_succ, h1]
      unfold layL
      have e4 : p + 1 + ([a, b, c, d] : List Int).length = (p + ([a, b, c, d] : List Int).length) + 1 := by omega
      rw [e4, List.take_succ_cons, List.drop_succ_cons]; rfl
theorem four_of {M : List Int} (h : M.length = 4) : ∃ a b c d, M = [a, b, c, d] := by
  rcases M with _ | ⟨a, _ | ⟨b, _ | ⟨c, _ | ⟨d, _ | ⟨e, r⟩⟩⟩⟩⟩
  · cases h
  · cases h
  · cases h
  · cases h
  · exact ⟨a, b, c, d, rfl⟩
  · simp at h
/-- Four bytes, laid over bytes of the call's own. -/
theorem copy4 {w : World} {base q n c : Nat} {L M : List Int} (h : OwnB w base (.slice (some ⟨q, 0, none⟩) n c) L) {p : Nat} (hp : p + 4 ≤ L.length) (hM : M.length = 4) {B b : Nat} (hr : RdB w B (some ⟨b, 0, none⟩) M) (ty : TypeId) (d k : Nat) (hd : 4 ≤ d) (x : Nat) :
    (Builtin.copy_ #[34, 34] ty #[.slice (some ⟨q, p, none⟩) d k, .slice (some ⟨b, 0, none⟩) 4 x]).run Tryz.prog w = .ok (goInt 4) (w.setCells q p (M.map (Value.int .u8))) := by
  have hl : (M.map (Value.int .u8)).length = 4 := by rw [List.length_map, hM]
  have h0 := run_copy_cells (P := Tryz.prog) w 34 34 ty 5 q p d k ⟨b, 0, none⟩ 4 x (M.map (Value.int .u8)) Tryz.underlying34 Tryz.size_u8 (by rw [hl]; exact (Nat.min_eq_left hd).symm)
    (fun j v hj => by
      have hjl : j < M.length := by
        rcases Nat.lt_or_ge j M.length with h | h
        · exact h
        · rw [List.getElem?_eq_none (by rw [List.length_map]; exact h)] at hj; cases hj
      obtain ⟨b', o', e, _, hc⟩ := hr (by omega)
      injection e with e; injection e with e1 e2; subst e1; subst e2
      have h1 := hc j _ (fnL_get hjl) 0 (by omega)
      rw [List.getElem?_map, fnL_get hjl] at hj
      injection hj with hj
      subst hj
      rw [Nat.mul_one, Nat.add_zero] at h1
      rw [add_plain]
      exact h1)
    (fun j hj => by rw [hl] at hj; rw [(OwnB.cell h (p + j) (by omega)).1]; rfl) (fun j hj => by rw [hl] at hj; exact (OwnB.cell h (p + j) (by omega)).2)
    (fun v hv => by rw [List.mem_map] at hv; obtain ⟨y, _, rfl⟩ := hv; rfl)
  rw [hl] at h0
  exact h0
theorem own_lay4 {w : World} {base q n c : Nat} {L M : List Int} (h : OwnB w base (.slice (some ⟨q, 0, none⟩) n c) L) {p : Nat} (hp : p + 4 ≤ L.length) (hM : M.length = 4) : OwnB (w.setCells q p (M.map (Value.int .u8))) base (.slice (some ⟨q, 0, none⟩) n c) (layL L p M) := by
  obtain ⟨a, b, c', d, rfl⟩ := four_of hM
  have h4 := ((((OwnB.put h p a).put (p + 1) b).put (p + 2) c').put (p + 3) d)
  rw [set4_at p L a b c' d hp] at h4
  exact h4
theorem since_lay4 {w0 w : World} {q p : Nat} {M : List Int} (hM : M.length = 4) (h : Since w0 w) (hq : w0.heap.size ≤ q) : Since w0 (w.setCells q p (M.map (Value.int .u8))) := by
  obtain ⟨a, b, c', d, rfl⟩ := four_of hM
  exact (((h.setCell hq _).setCell hq _).setCell hq _).setCell hq _
end Go.Proofs.YteckkcpnfeoehaaGreatDoor

/-
  Layer 4: the reference's 'put'; a string's bytes as a row; Lay told by lists.
-/
namespace Go.Proofs.YteckkcpnfeoehaaGreatDoor
set_option maxRecDepth 100000
open Go.RowKit Go.ChangeShapes Go.WideShapes Go.Deep
set_option linter.unusedVariables false
set_option linter.unusedSimpArgs false

set_option maxHeartbeats 4000000 in
theorem rf_put4 {w w0 : World} (hS : Since w0 w) {v : Value} {L : List Int} (hO : OwnB w w0.heap.size v L) (x : Int) (k : Nat) (y : Int) (hx : In64 x) (hy : y = k) (hk : k ≤ 8) (hL : L.length ≤ 2000000) :
    Calls Tryz.prog 78 #[v, .int .i64 x, .int .i64 y] w fun e w' => ∃ v' w1, e = .returned v' ∧ OwnB w' w0.heap.size v' (L ++ putL x k) ∧ Since w0 w' ∧ Since w w1 ∧ w1.grownBy w' v.ownBlock ∧ (v'.ownBlock = v.ownBlock ∨ v'.ownBlock = some w1.heap.size) := by
  have HP := Lib.hid (fun w2 => rput_o k x y w2 hx hy hk)
  have l1 : L.length + (putL x k).length ≤ 140737488355328 := by rw [putL_len]; omega
  have e1 := Lib.hid (putL_len x k)
  clear hx hy hk hL
  go_enter Tryz.func78, Tryz.ntmps78
  go_wp2_with (first | (go_at_call 83; (with_reducible refine (HP.out _).mono ?_); rintro e w6 ⟨g6, rfl, hg6, hO6, hS6⟩; have hr6 := own_rdw hO6) | (at_builtin; refine wpList_append_b4 rfl (.tmp 7) (.tmp 10) (by rfl) (hS.trans hS6) v L (by rfl) (hO.since hS6) _ (some ⟨g6, 0, none⟩) k k (putL x k) e1.out.symm (by rfl) hr6 l1 ?_; intro v7 w7 hO7 hS7 hg7 hl7))
  go_ret
  exact ⟨_, w6, rfl, hO7, hS7, hS6, hg7, hl7⟩
theorem rdb_str (w : World) (s : ByteArray) (k b : Nat) (hb : b = w.heap.size) (t : TypeId) (fr : Nat × Nat) : RdB (w.drew.alloc (.cells (bytesRow s k) t fr)) (w.drew.alloc (.cells (bytesRow s k) t fr)).heap.size (some ⟨b, 0, none⟩) (tagB s) := fun h0 => by
  subst hb
  refine ⟨w.heap.size, 0, rfl, by simp, fun j x hj i hi => ?_⟩
  obtain rfl : i = 0 := by omega
  have hh : (w.drew.alloc (.cells (bytesRow s k) t fr)).heap[w.heap.size]? = some (.cells (bytesRow s k) t fr) := by
    show (w.heap.push _)[w.heap.size]? = _
    simp
  unfold tagB at hj
  rw [List.getElem?_map] at hj
  obtain ⟨u, hu, rfl⟩ := Option.map_eq_some_iff.1 hj
  rw [Array.getElem?_toList] at hu
  have hjs : j < s.data.size := (Array.getElem?_eq_some_iff.1 hu).1
  have hc : (bytesRow s k)[j]? = some (.int .u8 (u.toNat : Int)) := by
    unfold bytesRow
    rw [Array.getElem?_append_left (by rw [Array.size_map]; exact hjs), Array.getElem?_map, hu]
    rfl
  simp only [World.cell?, hh, Nat.zero_add, Nat.mul_one, Nat.add_zero, hc]
  rfl
theorem layF_is (R M : List Int) (p : Nat) (h : p + M.length ≤ R.length) (j : Nat) (hj : j < R.length) : layF (fnL R) (fnL M) M.length (p : Int) j = fnL (layL R p M) j := by
  unfold layF layL fnL
  rw [Int.toNat_natCast]
  simp only [List.getD_eq_getElem?_getD]
  by_cases h1 : j < p
  · rw [if_neg (by omega), List.getElem?_append_left (by rw [List.length_take]; omega), List.getElem?_take_of_lt h1]
  · by_cases h2 : j < p + M.length
    · rw [if_pos ⟨by omega, h2⟩, List.getElem?_append_right (by rw [List.length_take]; omega), List.length_take, Nat.min_eq_left (by omega), List.getElem?_append_left (by omega)]
    · rw [if_neg (by omega), List.getElem?_append_right (by rw [List.length_take]; omega), List.length_take, Nat.min_eq_left (by omega), List.getElem?_append_right (by omega), List.getElem?_drop]
      congr 2
      omega
theorem layL_len (R M : List Int) (p : Nat) (h : p + M.length ≤ R.length) : (layL R p M).length = R.length := by
  unfold layL; rw [List.length_append, List.length_append, List.length_take, List.length_drop]; omega
theorem rf_lay4 (A B : Option Addr) (n c d : Nat) (R M : List Int) (p : Nat) (w : World) (h : RdB w w.heap.size A R) (hB : RdB w w.heap.size B M) (hn : n = R.length) (hM : M.length = 4) (hp : p + 4 ≤ R.length) (hx : n ≤ 140737488355328) :
    Calls Tryz.prog 82 #[.slice A n c, .int .i64 (p : Int), .slice B 4 d] w fun e w' => ∃ A' c', e = .returned (.tuple #[.slice A' n c', .int .i64 0]) ∧ RdB w' w'.heap.size A' (layL R p M) ∧ Since w w' := by
  subst hn
  have h4 := ref_lay A B R.length c 4 d (fnL R) (fnL M) (p : Int) w (rdb_rd h) (rdb_rd' hB hM.symm) (by unfold In64; omega) hx (by omega)
  refine h4.mono ?_
  rintro e w' ⟨A', l, cap, rfl, hl, _, hN, hS⟩
  have hf : Fits R.length (p : Int) 4 := by unfold Fits; omega
  obtain ⟨e1, e2⟩ := lay_yes hf
  rw [e2] at hl
  subst hl
  refine ⟨A', cap, by rw [e1], ?_, hS⟩
  refine rdb_of hN.rd (by rw [layL_len R M p (by omega)]) (fun j hj => ?_)
  have := layF_is R M p (by omega) j hj
  rw [hM] at this
  exact this
end Go.Proofs.YteckkcpnfeoehaaGreatDoor

/-
  Layer 4: Write, walked.
-/
namespace Go.Proofs.YteckkcpnfeoehaaGreatDoor
set_option maxRecDepth 100000
open Go.RowKit Go.ChangeShapes Go.WideShapes Go.Deep
set_option linter.unusedVariables false
set_option linter.unusedSimpArgs false

set_option maxRecDepth 1000000 in
set_option maxHeartbeats 32000000 in
theorem sf_write (A : Option Addr) (N c : Nat) (TT : List Tb) (w : World) (h : RdTL w w.heap.size A TT) (hN : N = TT.length) (hf : FewT TT) (hb : ∀ T, T ∈ TT → Bytes T.data) :
    Calls Tryz.prog 26 #[.slice A N c] w fun e w' => ∃ v, e = .returned (.tuple #[v, .int .i64 (if RightG TT = true then 0 else 4)]) ∧ OwnB w' w.heap.size v (if RightG TT = true then file4 TT else []) ∧ Since w w' := by
  have HRT := Lib.hid (fun (w2 : World) => sf_right A N c TT w)
  have HR0 := Lib.hid (sf_right A N c TT w h hN hf)
  clear HRT
  by_cases hR : right4 TT
  · have hG := rightG_yes hR
    rw [hG] at HR0 ⊢
    rw [if_pos rfl, if_pos rfl]
    obtain ⟨r1, r2, r3, r4, _⟩ := hR
    have hts : ∀ T, T ∈ TT → T.tag.size = 4 := fun T hT => by
      obtain ⟨j, hj⟩ := List.mem_iff_getElem?.1 hT
      exact (r4 j T hj).1
    have HTS := Lib.hid hts
    have HBY := Lib.hid hb
    have HF := Lib.hid hf
    have HN := Lib.hid hN
    have hNn : N ≤ 64 := by omega
    have hN1 : 1 ≤ N := by omega
    have hNI : (N : Int) ≤ 64 := by omega
    have HD := Lib.hid (fun w2 => sf_dir N w2 hN1 hNn)
    have HE := Lib.hid (fun j => Nat.le_trans (end4_take_le TT (12 + 16 * N) j) (by rw [hN]; exact r3 : end4 (12 + 16 * N) TT ≤ 1048576))
    have HRL := Lib.hid (show (raw4 TT).length ≤ 1048576 by rw [raw4_len hts]; exact r3)
    have HRB := Lib.hid (bytes_raw hb)
    have HAJ := Lib.hid (show adj4 (-1) (12 + 16 * N) TT = -1 ∨ ((12 + 16 * N : Nat) : Int) + 8 ≤ adj4 (-1) (12 + 16 * N) TT ∧ adj4 (-1) (12 + 16 * N) TT + 4 ≤ ((raw4 TT).length : Int) by rw [raw4_len hts]; unfold size4; rw [← hN]; exact adj4_ok TT (-1) (12 + 16 * N))
    have HFL := Lib.hid (show file4 TT = if adj4 (-1) (12 + 16 * N) TT < 0 then raw4 TT else layL (raw4 TT) (adj4 (-1) (12 + 16 * N) TT).toNat (putL ((2981146554 - sumI (raw4 TT)) % 4294967296) 4) by unfold file4; rw [← hN])
    have HRW := Lib.hid (show raw4 TT = dir4 N ++ ents4 (12 + 16 * N) TT ++ body4 TT by unfold raw4; rw [← hN])
    clear hG hf hb hts r1 r2 r3 r4 hN
    have m1 : IntKind.i64.wrap (16 * (N : Int)) = 16 * (N : Int) := by rw [IntKind.wrap_i64]; omega
    have m2 : IntKind.i64.wrap (12 + 16 * (N : Int)) = 12 + 16 * (N : Int) := by rw [IntKind.wrap_i64]; omega
    go_enter Tryz.func26, Tryz.ntmps26
    go_wp2_with (first | (go_at_call 38; (with_reducible refine HR0.out.mono ?_); rintro e w2 ⟨rfl, hS2⟩) | (go_at_call 62; (with_reducible refine (HD.out _).mono ?_); rintro e w3 ⟨v3, rfl, hO3, hS3⟩))
    have hX3 : Since w w3 := by (repeat (first | with_reducible (exact Since.refl _) | with_reducible assumption | with_reducible (refine Since.drew ?_) | with_reducible (refine Since.drewN ?_ _) | with_reducible (refine Since.alloc ?_ _) | (with_reducible (refine Since.setCell ?_ ?_ _); rotate_left; focus (first | (simp; done) | (simp; omega) | omega)) | (with_reducible (refine Since.trans ?_ (by with_reducible assumption)))))
    go_loopw [4, 5, 6, 7, 23] (fun vb vp va vy y wr => ∃ (j : Nat), j ≤ N ∧ y = .int .i64 (j : Int) ∧ vp = .int .i64 (end4 (12 + 16 * N) (TT.take j) : Int) ∧ va = .int .i64 (adj4 (-1) (12 + 16 * N) (TT.take j)) ∧ OwnB wr w.heap.size vb (dir4 N ++ ents4 (12 + 16 * N) (TT.take j)) ∧ OwnB wr w.heap.size vy (body4 (TT.take j)) ∧ Apart7 vb vy ∧ Since w wr) (fun _ _ _ _ y _ => N - (intOf y).toNat)
    case atStart => exact ⟨0, by omega, rfl, by simp [end4], rfl, by simpa [ents4] using hO3.low hS2.below.size, by simpa [body4] using OwnG.nil _ _ _ _ _, (fun k h1 h2 => by cases h2), hX3⟩
    case round =>
      obtain ⟨j, hj, rfl, rfl, rfl, hB, hY, hA, hS⟩ := hrel
      clear hX3 hO3 hS3 hS2 HR0 HD m1 m2
      by_cases hjn : j < N
      · have hjn' : (j : Int) < N := by omega
        have hjL : j < TT.length := by rw [← HN.out]; exact hjn
        have hT : TT[j]? = some TT[j] := List.getElem?_eq_getElem hjL
        have hmem := List.mem_of_getElem? hT
        obtain ⟨hml, _⟩ := HF.out.2 _ hmem
        have hbT := HBY.out _ hmem
        have hs4 := HTS.out _ hmem
        have hk := List.take_succ_eq_append_getElem hjL
        have hpe := HE.out (j + 1)
        have hll := ents4_len (TT.take j) (12 + 16 * N) (fun T hT => HTS.out T (List.mem_of_mem_take hT))
        have hyl := body4_len (TT.take j) (12 + 16 * N)
        have hlj : (TT.take j).length ≤ j := List.length_take_le _ _
        have HT1 := Lib.hid (show end4 (12 + 16 * N) (TT.take (j + 1)) = end4 (12 + 16 * N) (TT.take j) + pad4 TT[j].data.length by rw [hk, end4_snoc])
        have HT2 := Lib.hid (show adj4 (-1) (12 + 16 * N) (TT.take (j + 1)) = if adjT TT[j] then (end4 (12 + 16 * N) (TT.take j) : Int) + 8 else adj4 (-1) (12 + 16 * N) (TT.take j) by rw [hk, adj4_snoc])
        have HT3 := Lib.hid (show dir4 N ++ ents4 (12 + 16 * N) (TT.take (j + 1)) = (((dir4 N ++ ents4 (12 + 16 * N) (TT.take j)) ++ tagB TT[j].tag ++ putL (sumI (blank4 TT[j])) 4) ++ putL (end4 (12 + 16 * N) (TT.take j) : Int) 4) ++ putL TT[j].data.length 4 by rw [hk, ents4_snoc]; unfold ent4; simp only [List.append_assoc])
        have HT4 := Lib.hid (show body4 (TT.take (j + 1)) = body4 (TT.take j) ++ padL (blank4 TT[j]) by rw [hk, body4_snoc])
        obtain ⟨b, o, A', c', rfl, hb, hc1, hc2, hK⟩ := h.row hT
        have hdl := blank4_len TT[j]
        have hdb := bytes_blank hbT
        have hHA := sf_has TT[j]
        have hUN := sf_unadj TT[j]
        have hBL : (dir4 N ++ ents4 (12 + 16 * N) (TT.take j)).length ≤ 1100 := by rw [List.length_append, dir4_len, hll]; omega
        have hYL : (body4 (TT.take j)).length ≤ 1048576 := by have := HE.out j; omega
        generalize TT[j] = T at *
        obtain ⟨s, L⟩ := T
        simp only at hml hc1 hc2 hs4 hbT hK HT1 HT3 hdl hHA hUN
        have c1 := (hS.1 _ _ hb).trans hc1
        have c2 := (hS.1 _ _ hb).trans hc2
        have hbw := hS.2.2.1 _ hb
        have hK := (hK.since (Nat.le_refl _) hS).more hS.below.size
        obtain ⟨n, hn0⟩ : ∃ n, n = L.length := ⟨_, rfl⟩
        rw [← hn0] at c2 hml HT1 HT3 hdl
        have hnI : (n : Int) ≤ 1000000 := by omega
        have HC : Hid (∀ w2, Since wr w2 → Calls Tryz.prog 63 #[.agg #[.string s, .slice A' n c']] w2 fun e w' => ∃ Ad cd, e = .returned (.slice Ad n cd) ∧ OwnB w' w2.heap.size (.slice Ad n cd) (blank4 ⟨s, L⟩) ∧ Since w2 w') := Lib.hid (fun w2 h2 => (hUN A' n c' w2 (hK.on h2) hn0 (by omega)).mono (by
          rintro e w' ⟨v, rfl, hO, hS⟩
          obtain ⟨Ad, cd, rfl, _, _⟩ := hO.rd (by omega) byL_len
          rw [hdl] at hO ⊢
          exact ⟨Ad, cd, rfl, hO, hS⟩))
        have HH := Lib.hid (fun w2 => hHA A' n c' w2 hn0 (by simp only [maxLen]; omega))
        have hsr := sumI_range (blank4 ⟨s, L⟩)
        have HSM := Lib.hid (fun Ad cd w2 hr => sf_sum Ad n cd (blank4 ⟨s, L⟩) w2 hr hdl.symm hdb (by omega))
        have HPD := Lib.hid (fun Ad cd w2 hr => sf_pad Ad n cd (blank4 ⟨s, L⟩) w2 hr hdl.symm (by omega))
        have HPL := Lib.hid (show (padL (blank4 ⟨s, L⟩)).length = pad4 n by rw [padL_len, hdl])
        have HPP := Lib.hid (fun w2 => sf_padded n w2 (by omega))
        have hp4 := pad4_le n
        have hpe : end4 (12 + 16 * N) (TT.take j) + pad4 n ≤ 1048576 := by rw [← HT1.out]; exact hpe
        generalize blank4 ⟨s, L⟩ = DL at *
        generalize sumI DL = sm at *
        generalize adjT ⟨s, L⟩ = g at *
        generalize end4 (12 + 16 * N) (TT.take j) = p at *
        generalize adj4 (-1) (12 + 16 * N) (TT.take j) = x at *
        generalize dir4 N ++ ents4 (12 + 16 * N) (TT.take j) = BL at *
        generalize body4 (TT.take j) = YL at *
        generalize pad4 n = pn at *
        have m1 : IntKind.i64.wrap sm = sm := by rw [IntKind.wrap_i64]; omega
        have m2 : IntKind.i64.wrap ((p : Int) + 8) = (p : Int) + 8 := by rw [IntKind.wrap_i64]; omega
        have m3 : IntKind.i64.wrap ((p : Int) + (pn : Int)) = (p : Int) + (pn : Int) := by rw [IntKind.wrap_i64]; omega
        have HP1 := Lib.hid (fun (w2 : World) => put_o 4 sm 4 w2 (by unfold In64; omega) rfl (by omega))
        have HP2 := Lib.hid (fun (w2 : World) => put_o 4 (p : Int) 4 w2 (by unfold In64; omega) rfl (by omega))
        have HP3 := Lib.hid (fun (w2 : World) => put_o 4 (n : Int) 4 w2 (by unfold In64; omega) rfl (by omega))
        have l1 : BL.length + s.size ≤ 140737488355328 := by omega
        have l2 : (BL ++ tagB s).length + (putL sm 4).length ≤ 140737488355328 := by rw [List.length_append, tagB_len, putL_len]; omega
        have l3 : (BL ++ tagB s ++ putL sm 4).length + (putL p 4).length ≤ 140737488355328 := by rw [List.length_append, List.length_append, tagB_len, putL_len, putL_len]; omega
        have l4 : (BL ++ tagB s ++ putL sm 4 ++ putL p 4).length + (putL n 4).length ≤ 140737488355328 := by rw [List.length_append, List.length_append, List.length_append, tagB_len, putL_len, putL_len, putL_len]; omega
        have l5 : YL.length + (padL DL).length ≤ 140737488355328 := by rw [HPL.out]; omega
        have e1 := Lib.hid (putL_len sm 4)
        have e2 := Lib.hid (putL_len (p : Int) 4)
        have e3 := Lib.hid (putL_len (n : Int) 4)
        clear hT h hc1 hc2 hjL hn0 hp4 hmem hk hll hyl hlj hHA hUN hdl hdb hBL hYL hbT hs4
        cases g

        · go_wp2_with (first | (go_at_call 63; (with_reducible refine (HC.out _ (by (repeat (first | with_reducible (exact Since.refl _) | with_reducible assumption | with_reducible (refine Since.drew ?_) | with_reducible (refine Since.drewN ?_ _) | with_reducible (refine Since.alloc ?_ _) | (with_reducible (refine Since.setCell ?_ ?_ _); rotate_left; focus (first | (simp; done) | (simp; omega) | omega)) | (with_reducible (refine Since.trans ?_ (by with_reducible assumption))))))).mono ?_); rintro e w2 ⟨Ad, cd, rfl, hOd, hSd⟩; obtain ⟨q1, q2, q3⟩ := two_tb hSd; have hXd : Since wr w2 := (by (repeat (first | with_reducible (exact Since.refl _) | with_reducible assumption | with_reducible (refine Since.drew ?_) | with_reducible (refine Since.drewN ?_ _) | with_reducible (refine Since.alloc ?_ _) | (with_reducible (refine Since.setCell ?_ ?_ _); rotate_left; focus (first | (simp; done) | (simp; omega) | omega)) | (with_reducible (refine Since.trans ?_ (by with_reducible assumption)))))); have hzw := hS.below.size; have HW : Wr4 w _ _ (.slice Ad n cd) BL YL DL wr.heap.size s A' n c' w2 := ⟨hB.since hXd, hY.since hXd, hOd.low (by simp; omega), hA, (fun q h1 h2 => by have a1 := hB.lt h1; have a2 := hOd.lt h2; simp at a2; omega), (fun q h1 h2 => by have a1 := hY.lt h1; have a2 := hOd.lt h2; simp at a2; omega), q1, q2, q3, (fun h1 => by have a1 := hB.lt h1; omega), (fun h1 => by have a1 := hY.lt h1; omega), hS.trans hXd⟩; clear hOd hSd) | (at_builtin; refine wpList_append_s rfl (.tmp 29) (.tmp 31) rfl HW.s _ BL (by rfl) HW.b s (by rfl) l1 ?_; intro v4 w4 hO4 hS4 hg4 hl4; have HW4 := HW.growB hO4 hS4 hg4 hl4) | (go_at_call 65; (with_reducible refine (HSM.out Ad cd _ (own_rdw HW4.d)).mono ?_); rintro e w5 ⟨rfl, hw5⟩; have hw6 := hw5.symm; subst hw6; clear hw5) | (go_at_call 64; (with_reducible refine (HP1.out _).mono ?_); rintro e w6 ⟨g6, rfl, hg6, hO6, hS6⟩; have HW6 := HW4.since hS6; have hr6 := own_rdw hO6) | (at_builtin; refine wpList_append_b4 rfl (.tmp 33) (.tmp 37) rfl HW6.s _ _ (by rfl) HW6.b _ (some ⟨g6, 0, none⟩) 4 4 (putL sm 4) e1.out.symm (by rfl) hr6 l2 ?_; intro v7 w7 hO7 hS7 hg7 hl7; have HW7 := HW6.growB hO7 hS7 hg7 hl7) | (go_at_call 64; (with_reducible refine (HP2.out _).mono ?_); rintro e w8 ⟨g8, rfl, hg8, hO8, hS8⟩; have HW8 := HW7.since hS8; have hr8 := own_rdw hO8) | (at_builtin; refine wpList_append_b4 rfl (.tmp 39) (.tmp 41) rfl HW8.s _ _ (by rfl) HW8.b _ (some ⟨g8, 0, none⟩) 4 4 (putL p 4) e2.out.symm (by rfl) hr8 l3 ?_; intro v9 w9 hO9 hS9 hg9 hl9; have HW9 := HW8.growB hO9 hS9 hg9 hl9) | (go_at_call 64; (with_reducible refine (HP3.out _).mono ?_); rintro e wa ⟨ga, rfl, hga, hOa, hSa⟩; have HWa := HW9.since hSa; have hra := own_rdw hOa) | (at_builtin; refine wpList_append_b4 rfl (.tmp 43) (.tmp 46) rfl HWa.s _ _ (by rfl) HWa.b _ (some ⟨ga, 0, none⟩) 4 4 (putL n 4) e3.out.symm (by rfl) hra l4 ?_; intro vb wb hOb hSb hgb hlb; have HWb := HWa.growB hOb hSb hgb hlb) | (go_at_call 66; (with_reducible refine (HPD.out Ad cd _ (own_rdw HWb.d)).mono ?_); rintro e wc ⟨gc, rfl, hgc, hrc, hSc⟩; have HWc := HWb.since hSc) | (at_builtin; refine wpList_append_b4 rfl (.tmp 48) (.tmp 50) rfl HWc.s _ _ (by rfl) HWc.y _ (some ⟨gc, 0, none⟩) pn pn (padL DL) HPL.out.symm (by rfl) hrc l5 ?_; intro vd wd hOd hSd hgd hld; have HWd := HWc.growY hOd hSd hgd hld; have u1 := HWd.x0; have u2 := HWd.x1; have u3 := HWd.xz) | (go_at_call 67; (with_reducible refine (HH.out _).mono ?_); rintro e we ⟨rfl, hwe⟩; have HWe := HWd.since hwe) | (go_at_call 68; (with_reducible refine (HPP.out _).mono ?_); rintro e wf ⟨rfl, hwf⟩; have hwg := hwf.symm; subst hwg; clear hwf))
          go_roundw
          case rel => first | exact ⟨j + 1, by omega, by first | rfl | go_num | simp, by rw [HT1.out]; first | rfl | go_num | simp, by rw [HT2.out]; first | rfl | simp, by rw [HT3.out]; exact HWe.b, by rw [HT4.out]; exact HWe.y, HWe.by_, HWe.s⟩ | ((repeat apply Exists.intro); refine ⟨?_, rfl⟩; exact ⟨j + 1, by omega, by first | rfl | go_num | simp, by rw [HT1.out]; first | rfl | go_num | simp, by rw [HT2.out]; first | rfl | simp, by rw [HT3.out]; exact HWe.b, by rw [HT4.out]; exact HWe.y, HWe.by_, HWe.s⟩)
          case measure => simp [intOf]; omega

        · go_wp2_with (first | (go_at_call 63; (with_reducible refine (HC.out _ (by (repeat (first | with_reducible (exact Since.refl _) | with_reducible assumption | with_reducible (refine Since.drew ?_) | with_reducible (refine Since.drewN ?_ _) | with_reducible (refine Since.alloc ?_ _) | (with_reducible (refine Since.setCell ?_ ?_ _); rotate_left; focus (first | (simp; done) | (simp; omega) | omega)) | (with_reducible (refine Since.trans ?_ (by with_reducible assumption))))))).mono ?_); rintro e w2 ⟨Ad, cd, rfl, hOd, hSd⟩; obtain ⟨q1, q2, q3⟩ := two_tb hSd; have hXd : Since wr w2 := (by (repeat (first | with_reducible (exact Since.refl _) | with_reducible assumption | with_reducible (refine Since.drew ?_) | with_reducible (refine Since.drewN ?_ _) | with_reducible (refine Since.alloc ?_ _) | (with_reducible (refine Since.setCell ?_ ?_ _); rotate_left; focus (first | (simp; done) | (simp; omega) | omega)) | (with_reducible (refine Since.trans ?_ (by with_reducible assumption)))))); have hzw := hS.below.size; have HW : Wr4 w _ _ (.slice Ad n cd) BL YL DL wr.heap.size s A' n c' w2 := ⟨hB.since hXd, hY.since hXd, hOd.low (by simp; omega), hA, (fun q h1 h2 => by have a1 := hB.lt h1; have a2 := hOd.lt h2; simp at a2; omega), (fun q h1 h2 => by have a1 := hY.lt h1; have a2 := hOd.lt h2; simp at a2; omega), q1, q2, q3, (fun h1 => by have a1 := hB.lt h1; omega), (fun h1 => by have a1 := hY.lt h1; omega), hS.trans hXd⟩; clear hOd hSd) | (at_builtin; refine wpList_append_s rfl (.tmp 29) (.tmp 31) rfl HW.s _ BL (by rfl) HW.b s (by rfl) l1 ?_; intro v4 w4 hO4 hS4 hg4 hl4; have HW4 := HW.growB hO4 hS4 hg4 hl4) | (go_at_call 65; (with_reducible refine (HSM.out Ad cd _ (own_rdw HW4.d)).mono ?_); rintro e w5 ⟨rfl, hw5⟩; have hw6 := hw5.symm; subst hw6; clear hw5) | (go_at_call 64; (with_reducible refine (HP1.out _).mono ?_); rintro e w6 ⟨g6, rfl, hg6, hO6, hS6⟩; have HW6 := HW4.since hS6; have hr6 := own_rdw hO6) | (at_builtin; refine wpList_append_b4 rfl (.tmp 33) (.tmp 37) rfl HW6.s _ _ (by rfl) HW6.b _ (some ⟨g6, 0, none⟩) 4 4 (putL sm 4) e1.out.symm (by rfl) hr6 l2 ?_; intro v7 w7 hO7 hS7 hg7 hl7; have HW7 := HW6.growB hO7 hS7 hg7 hl7) | (go_at_call 64; (with_reducible refine (HP2.out _).mono ?_); rintro e w8 ⟨g8, rfl, hg8, hO8, hS8⟩; have HW8 := HW7.since hS8; have hr8 := own_rdw hO8) | (at_builtin; refine wpList_append_b4 rfl (.tmp 39) (.tmp 41) rfl HW8.s _ _ (by rfl) HW8.b _ (some ⟨g8, 0, none⟩) 4 4 (putL p 4) e2.out.symm (by rfl) hr8 l3 ?_; intro v9 w9 hO9 hS9 hg9 hl9; have HW9 := HW8.growB hO9 hS9 hg9 hl9) | (go_at_call 64; (with_reducible refine (HP3.out _).mono ?_); rintro e wa ⟨ga, rfl, hga, hOa, hSa⟩; have HWa := HW9.since hSa; have hra := own_rdw hOa) | (at_builtin; refine wpList_append_b4 rfl (.tmp 43) (.tmp 46) rfl HWa.s _ _ (by rfl) HWa.b _ (some ⟨ga, 0, none⟩) 4 4 (putL n 4) e3.out.symm (by rfl) hra l4 ?_; intro vb wb hOb hSb hgb hlb; have HWb := HWa.growB hOb hSb hgb hlb) | (go_at_call 66; (with_reducible refine (HPD.out Ad cd _ (own_rdw HWb.d)).mono ?_); rintro e wc ⟨gc, rfl, hgc, hrc, hSc⟩; have HWc := HWb.since hSc) | (at_builtin; refine wpList_append_b4 rfl (.tmp 48) (.tmp 50) rfl HWc.s _ _ (by rfl) HWc.y _ (some ⟨gc, 0, none⟩) pn pn (padL DL) HPL.out.symm (by rfl) hrc l5 ?_; intro vd wd hOd hSd hgd hld; have HWd := HWc.growY hOd hSd hgd hld; have u1 := HWd.x0; have u2 := HWd.x1; have u3 := HWd.xz) | (go_at_call 67; (with_reducible refine (HH.out _).mono ?_); rintro e we ⟨rfl, hwe⟩; have HWe := HWd.since hwe) | (go_at_call 68; (with_reducible refine (HPP.out _).mono ?_); rintro e wf ⟨rfl, hwf⟩; have hwg := hwf.symm; subst hwg; clear hwf))
          go_roundw
          case rel => first | exact ⟨j + 1, by omega, by first | rfl | go_num | simp, by rw [HT1.out]; first | rfl | go_num | simp, by rw [HT2.out]; first | rfl | simp, by rw [HT3.out]; exact HWe.b, by rw [HT4.out]; exact HWe.y, HWe.by_, HWe.s⟩ | ((repeat apply Exists.intro); refine ⟨?_, rfl⟩; exact ⟨j + 1, by omega, by first | rfl | go_num | simp, by rw [HT1.out]; first | rfl | go_num | simp, by rw [HT2.out]; first | rfl | simp, by rw [HT3.out]; exact HWe.b, by rw [HT4.out]; exact HWe.y, HWe.by_, HWe.s⟩)
          case measure => simp [intOf]; omega

      · obtain rfl : N = j := by omega
        have hjn' : ¬ (N : Int) < (N : Int) := by omega
        have e : TT.take N = TT := by rw [HN.out]; exact List.take_length
        rw [e] at hB hY ⊢
        obtain ⟨Ay, cy, rfl, hcy, hry⟩ := hY.rd (by omega) byL_len
        have hl := HRL.out
        rw [HRW.out, List.length_append] at hl
        have hl1 : (dir4 N ++ ents4 (12 + 16 * N) TT).length + (body4 TT).length ≤ 140737488355328 := by omega
        have HPA := Lib.hid (fun (z : Int) (w2 : World) (hz : 0 ≤ z ∧ z < 4294967296) => put_o 4 z 4 w2 (by unfold In64; omega) rfl (by omega))
        have hsr := sumI_range (raw4 TT)
        have HSM := Lib.hid (fun Ad n cd w2 hr (hn : n = (raw4 TT).length) => sf_sum Ad n cd (raw4 TT) w2 hr hn HRB.out (by have := HRL.out; omega))
        have HAD := Lib.hid (fun w2 => ts_adjust (sumI (raw4 TT)) w2 hsr)
        have HRL := HRL.out
        have HAJ := HAJ.out
        clear hl hA HE HF HTS HBY HRB h e
        generalize dir4 N ++ ents4 (12 + 16 * N) TT = BL at *
        generalize body4 TT = YL at *
        generalize raw4 TT = R at *
        generalize adj4 (-1) (12 + 16 * N) TT = x at *
        obtain ⟨Z, hZ⟩ : ∃ Z, Z = R.length := ⟨_, rfl⟩
        have HZ := Lib.hid hZ
        rcases HAJ with hx | ⟨hx1, hx2⟩
        · have EF := Lib.hid (show file4 TT = R by rw [HFL.out, if_pos (by omega)])
          subst hx
          clear hZ HRL
          go_wp2_with (first | (at_builtin; refine wpList_append_b4 rfl (.tmp 62) (.tmp 63) rfl hS _ BL (by rfl) hB _ Ay YL.length cy YL rfl (by rfl) hry hl1 ?_; intro v7 w7 hO7 hS7 hg7 hl7))
          go_ret2
          exact ⟨_, rfl, by rw [EF.out, HRW.out]; exact hO7, hS7⟩
        · obtain ⟨q, rfl⟩ : ∃ q : Nat, x = q := ⟨x.toNat, by omega⟩
          have EF := Lib.hid (show file4 TT = layL R q (putL ((2981146554 - sumI R) % 4294967296) 4) by rw [HFL.out, if_neg (by omega), Int.toNat_natCast])
          have hqZ : q + 4 ≤ R.length := by omega
          have hq0 : (0 : Int) ≤ (q : Int) := by omega
          have HQZ := Lib.hid hqZ
          have hadr : 0 ≤ (2981146554 - sumI R) % 4294967296 ∧ (2981146554 - sumI R) % 4294967296 < 4294967296 := by omega
          generalize sumI R = sm at *
          obtain ⟨ad, had⟩ : ∃ ad, ad = (2981146554 - sm) % 4294967296 := ⟨_, rfl⟩
          rw [← had] at HAD hadr EF
          have m1 : IntKind.i64.wrap ad = ad := by rw [IntKind.wrap_i64]; omega
          have HPQ := Lib.hid (fun w2 => HPA.out ad w2 hadr)
          have hlp := Lib.hid (putL_len ad 4)
          clear hsr had hx1 hx2 HRL
          have hqI : (q : Int) ≤ (Z : Int) := by omega
          have h4Z : 4 ≤ Z - q := by omega
          clear hZ hqZ
          go_upto_region 21 with (first | (at_builtin; refine wpList_append_b4 rfl (.tmp 62) (.tmp 63) rfl hS _ BL (by rfl) hB _ Ay YL.length cy YL rfl (by rfl) hry hl1 ?_; intro v7 w7 hO7 hS7 hg7 hl7; rw [← HRW.out] at hO7; obtain ⟨A7, c7, rfl, hc7, hr7⟩ := hO7.rd (by omega) byL_len; rw [← HZ.out] at hO7 hc7 ⊢; obtain ⟨b7, o7, rfl, _, _⟩ := hr7 (by have := HQZ.out; omega); have ho := own_off hO7; subst ho; have hcI : (Z : Int) ≤ (c7 : Int) := (by omega); have hqc : ¬ q = c7 := (by omega)))
          have hqI2 : (q : Int) ≤ (c7 : Int) := by omega
          go_region_with (first | (go_at_call 65; (with_reducible refine (HSM.out _ _ _ _ (own_rdw (hO7.since ((Since.refl w7).drew))) HZ.out).mono ?_); rintro e w5 ⟨rfl, hw5⟩; subst hw5) | (go_at_call 69; (with_reducible refine (HAD.out _).mono ?_); rintro e w6 ⟨rfl, hw6⟩; subst hw6) | (go_at_call 64; (with_reducible refine (HPQ.out _).mono ?_); rintro e w9 ⟨g9, rfl, hg9, hO9, hS9⟩; have hb9 := (hO7.since ((Since.refl w7).drew)).since hS9; have hr9 := own_rdw hO9; have hcp := fun ty k x => copy4 hb9 HQZ.out hlp.out hr9 ty (Z - q) k h4Z x; have hlay := own_lay4 hb9 HQZ.out hlp.out; have hsl := since_lay4 (p := q) hlp.out ((hS7.drew).trans hS9) (hO7.lt rfl).1; generalize (putL ad 4).map (Value.int .u8) = cs4 at *))
          all_goals go_wp2_with fail
          all_goals go_ret2
          all_goals exact ⟨_, rfl, by rw [EF.out]; exact hlay, hsl⟩
  · have hG := rightG_no hR
    rw [hG] at HR0 ⊢
    rw [if_neg (by simp), if_neg (by simp)]
    clear h hf hb hN
    go_enter Tryz.func26, Tryz.ntmps26
    go_wp2_with (go_at_call 38; (with_reducible refine HR0.out.mono ?_); rintro e w2 ⟨rfl, hS2⟩)
    go_ret2
    exact ⟨_, rfl, OwnG.nil _ _ _ _ _, hS2⟩
end Go.Proofs.YteckkcpnfeoehaaGreatDoor

/-
  Layer 4: the reference's Write, walked.
-/
namespace Go.Proofs.YteckkcpnfeoehaaGreatDoor
set_option maxRecDepth 100000
open Go.RowKit Go.ChangeShapes Go.WideShapes Go.Deep
set_option linter.unusedVariables false
set_option linter.unusedSimpArgs false

theorem up4_eq {N k : Nat} (h1 : 2 ^ k ≤ N) (h2 : N < 2 * 2 ^ k) : up4 N = k := by
  have h0 : N ≠ 0 := by have := Nat.two_pow_pos k; omega
  unfold up4
  exact (Nat.log2_eq_iff h0).2 ⟨h1, by rw [Nat.pow_succ]; omega⟩
set_option maxRecDepth 1000000 in
set_option maxHeartbeats 32000000 in
theorem rf_write4 (A : Option Addr) (N c : Nat) (TT : List Tb) (w : World) (h : RdTL w w.heap.size A TT) (hN : N = TT.length) (hf : FewT TT) (hb : ∀ T, T ∈ TT → Bytes T.data) (hR : right4 TT) :
    Calls Tryz.prog 41 #[.slice A N c] w fun e w' => ∃ A' c', e = .returned (.slice A' (file4 TT).length c') ∧ RdB w' w'.heap.size A' (file4 TT) ∧ Since w w' := by
  obtain ⟨r1, r2, r3, r4, _⟩ := hR
  have hts : ∀ T, T ∈ TT → T.tag.size = 4 := fun T hT => by
    obtain ⟨j, hj⟩ := List.mem_iff_getElem?.1 hT
    exact (r4 j T hj).1
  have HTS := Lib.hid hts
  have HBY := Lib.hid hb
  have HF := Lib.hid hf
  have HN := Lib.hid hN
  have hNn : N ≤ 64 := by omega
  have hN1 : 1 ≤ N := by omega
  have hNI : (N : Int) ≤ 64 := by omega
  have HE := Lib.hid (fun j => Nat.le_trans (end4_take_le TT (12 + 16 * N) j) (by rw [hN]; exact r3 : end4 (12 + 16 * N) TT ≤ 1048576))
  have HRL := Lib.hid (show (raw4 TT).length ≤ 1048576 by rw [raw4_len hts]; exact r3)
  have HRB := Lib.hid (bytes_raw hb)
  have HAJ := Lib.hid (show adj4 (-1) (12 + 16 * N) TT = -1 ∨ ((12 + 16 * N : Nat) : Int) + 8 ≤ adj4 (-1) (12 + 16 * N) TT ∧ adj4 (-1) (12 + 16 * N) TT + 4 ≤ ((raw4 TT).length : Int) by rw [raw4_len hts]; unfold size4; rw [← hN]; exact adj4_ok TT (-1) (12 + 16 * N))
  have HFL := Lib.hid (show file4 TT = if adj4 (-1) (12 + 16 * N) TT < 0 then raw4 TT else layL (raw4 TT) (adj4 (-1) (12 + 16 * N) TT).toNat (putL ((2981146554 - sumI (raw4 TT)) % 4294967296) 4) by unfold file4; rw [← hN])
  have HRW := Lib.hid (show raw4 TT = dir4 N ++ ents4 (12 + 16 * N) TT ++ body4 TT by unfold raw4; rw [← hN])
  have ED := Lib.hid (show dir4 N = ((([0, 1, 0, 0] ++ putL N 2) ++ putL ((16 * 2 ^ up4 N : Nat) : Int) 2) ++ putL (up4 N) 2) ++ putL (((16 * N : Nat) : Int) - ((16 * 2 ^ up4 N : Nat) : Int)) 2 by unfold dir4; simp only [List.append_assoc]; rfl)
  have HPT := Lib.hid (fun (v : Value) (L : List Int) (x : Int) (k : Nat) (y : Int) (w2 : World) (hS : Since w w2) (hO : OwnB w2 w.heap.size v L) (hx : In64 x) (hy : y = k) (hk : k ≤ 8) (hL : L.length ≤ 2000000) => rf_put4 hS hO x k y hx hy hk hL)
  clear hf hb hts r1 r2 r3 r4 hN
  go_enter Tryz.func41, Tryz.ntmps41
  go_wp2_with fail
  go_loopw [3, 4] (fun vp vk wr => ∃ (k p : Nat), k ≤ 6 ∧ Hid (p = 2 ^ k) ∧ 1 ≤ p ∧ p ≤ N ∧ vp = .int .i64 (p : Int) ∧ vk = .int .i64 (k : Int) ∧ Since w wr) (fun vp _ _ => N - (intOf vp).toNat)
  case atStart => exact ⟨0, 1, by omega, Lib.hid rfl, by omega, by omega, rfl, rfl, Since.refl _⟩
  case round =>
    obtain ⟨k, p, hk, HK, hp1, hpN, rfl, rfl, hS0⟩ := hrel
    have m1 : IntKind.i64.wrap (2 * (p : Int)) = 2 * (p : Int) := by rw [IntKind.wrap_i64]; omega
    have m2 : IntKind.i64.wrap ((k : Int) + 1) = (k : Int) + 1 := by rw [IntKind.wrap_i64]; omega
    by_cases h2 : 2 * p ≤ N
    · have d1 : 2 * (p : Int) ≤ (N : Int) := by omega
      have hk6 : k + 1 ≤ 6 := by
        have : k = 6 ∨ k < 6 := by omega
        rcases this with rfl | h3
        · have := HK.out; omega
        · omega
      have HK2 : Hid (2 * p = 2 ^ (k + 1)) := Lib.hid (by rw [HK.out, Nat.pow_succ]; omega)
      go_wp2_with fail
      go_roundw
      case rel => first | exact ⟨k + 1, 2 * p, hk6, HK2, by omega, by omega, by first | rfl | go_num | simp, by first | rfl | go_num | simp, hS0⟩ | ((repeat apply Exists.intro); refine ⟨?_, rfl⟩; exact ⟨k + 1, 2 * p, hk6, HK2, by omega, by omega, by first | rfl | go_num | simp, by first | rfl | go_num | simp, hS0⟩)
      case measure => simp [intOf]; omega
    · have d1 : ¬ 2 * (p : Int) ≤ (N : Int) := by omega
      have hup := up4_eq (N := N) (k := k) (by rw [← HK.out]; exact hpN) (by rw [← HK.out]; omega)
      have hpn : (16 * 2 ^ k : Nat) = 16 * p := by rw [HK.out]
      rw [hup, hpn] at ED
      have hpI : (p : Int) ≤ (N : Int) := by omega
      have m3 : IntKind.i64.wrap (16 * (p : Int)) = 16 * (p : Int) := by rw [IntKind.wrap_i64]; omega
      have m4 : IntKind.i64.wrap (16 * (N : Int)) = 16 * (N : Int) := by rw [IntKind.wrap_i64]; omega
      have m5 : IntKind.i64.wrap (16 * (N : Int) - 16 * (p : Int)) = 16 * (N : Int) - 16 * (p : Int) := by rw [IntKind.wrap_i64]; omega
      have m6 : IntKind.i64.wrap (12 + 16 * (N : Int)) = 12 + 16 * (N : Int) := by rw [IntKind.wrap_i64]; omega
      have ED2 := Lib.hid (show dir4 N = ((([0, 1, 0, 0] ++ putL N 2) ++ putL (16 * (p : Int)) 2) ++ putL (k : Int) 2) ++ putL (16 * (N : Int) - 16 * (p : Int)) 2 by have := ED.out; simpa using this)
      have i1 : In64 (N : Int) := by unfold In64; omega
      have i2 : In64 (16 * (p : Int)) := by unfold In64; omega
      have i3 : In64 (k : Int) := by unfold In64; omega
      have i4 : In64 (16 * (N : Int) - 16 * (p : Int)) := by unfold In64; omega
      have hO0 := ownB_new wr w.heap.size wr.heap.size 4 rfl hS0.below.size #[.int .u8 0, .int .u8 1, .int .u8 0, .int .u8 0] [0, 1, 0, 0] rfl rfl (by simp)
      have L0 : ([0, 1, 0, 0] : List Int).length ≤ 2000000 := by simp
      have L1 : (([0, 1, 0, 0] : List Int) ++ putL N 2).length ≤ 2000000 := by rw [List.length_append, putL_len]; simp
      have L2 : ((([0, 1, 0, 0] : List Int) ++ putL N 2) ++ putL (16 * (p : Int)) 2).length ≤ 2000000 := by rw [List.length_append, List.length_append, putL_len, putL_len]; simp
      have L3 : (((([0, 1, 0, 0] : List Int) ++ putL N 2) ++ putL (16 * (p : Int)) 2) ++ putL (k : Int) 2).length ≤ 2000000 := by rw [List.length_append, List.length_append, List.length_append, putL_len, putL_len, putL_len]; simp
      clear ED hup hpn
      generalize ([0, 1, 0, 0] : List Int) = Z4 at *
      go_wp2_with (first | (go_at_call 78; (with_reducible refine (HPT.out _ Z4 (N : Int) 2 2 _ (by (repeat (first | with_reducible (exact Since.refl _) | with_reducible assumption | with_reducible (refine Since.drew ?_) | with_reducible (refine Since.drewN ?_ _) | with_reducible (refine Since.alloc ?_ _) | (with_reducible (refine Since.setCell ?_ ?_ _); rotate_left; focus (first | (simp; done) | (simp; omega) | omega)) | (with_reducible (refine Since.trans ?_ (by with_reducible assumption)))))) hO0 i1 rfl (by omega) L0).mono ?_); rintro e w2 ⟨v2, w1, rfl, hO2, hS2, _, _, _⟩; clear hO0) | (go_at_call 78; (with_reducible refine (HPT.out _ _ (16 * (p : Int)) 2 2 _ hS2 hO2 i2 rfl (by omega) L1).mono ?_); rintro e w3 ⟨v3, w1, rfl, hO3, hS3, _, _, _⟩; clear hO2) | (go_at_call 78; (with_reducible refine (HPT.out _ _ (k : Int) 2 2 _ hS3 hO3 i3 rfl (by omega) L2).mono ?_); rintro e w4 ⟨v4, w1, rfl, hO4, hS4, _, _, _⟩; clear hO3) | (go_at_call 78; (with_reducible refine (HPT.out _ _ (16 * (N : Int) - 16 * (p : Int)) 2 2 _ hS4 hO4 i4 rfl (by omega) L3).mono ?_); rintro e w5 ⟨v5, w1, rfl, hO5, hS5, _, _, _⟩; clear hO4; rw [← ED2.out] at hO5))
      clear m1 m2 m3 m4 m5 m6 L0 L1 L2 L3 i1 i2 i3 i4 ED2 HK hk hp1 hpN hpI d1 h2 hS2 hS3 hS4
      go_loopw [5, 6, 7, 48] (fun vb vp va y wr => ∃ (j : Nat), j ≤ N ∧ y = .int .i64 (j : Int) ∧ vp = .int .i64 (end4 (12 + 16 * N) (TT.take j) : Int) ∧ va = .int .i64 (adj4 (-1) (12 + 16 * N) (TT.take j)) ∧ OwnB wr w.heap.size vb (dir4 N ++ ents4 (12 + 16 * N) (TT.take j)) ∧ Since w wr) (fun _ _ _ y _ => N - (intOf y).toNat)
      case atStart => exact ⟨0, by omega, rfl, by simp [end4], rfl, by simpa [ents4] using hO5, hS5⟩
      case round =>
        obtain ⟨j, hj, rfl, rfl, rfl, hB, hS⟩ := hrel
        clear hO5 hS5 hS0
        by_cases hjn : j < N
        · have hjn' : (j : Int) < N := by omega
          have hjL : j < TT.length := by rw [← HN.out]; exact hjn
          have hT : TT[j]? = some TT[j] := List.getElem?_eq_getElem hjL
          have hmem := List.mem_of_getElem? hT
          obtain ⟨hml, _⟩ := HF.out.2 _ hmem
          have hbT := HBY.out _ hmem
          have hs4 := HTS.out _ hmem
          have hk := List.take_succ_eq_append_getElem hjL
          have hpe := HE.out (j + 1)
          have hll := ents4_len (TT.take j) (12 + 16 * N) (fun T hT => HTS.out T (List.mem_of_mem_take hT))
          have hlj : (TT.take j).length ≤ j := List.length_take_le _ _
          have HT1 := Lib.hid (show end4 (12 + 16 * N) (TT.take (j + 1)) = end4 (12 + 16 * N) (TT.take j) + pad4 TT[j].data.length by rw [hk, end4_snoc])
          have HT2 := Lib.hid (show adj4 (-1) (12 + 16 * N) (TT.take (j + 1)) = if adjT TT[j] then (end4 (12 + 16 * N) (TT.take j) : Int) + 8 else adj4 (-1) (12 + 16 * N) (TT.take j) by rw [hk, adj4_snoc])
          have HT3 := Lib.hid (show dir4 N ++ ents4 (12 + 16 * N) (TT.take (j + 1)) = (((dir4 N ++ ents4 (12 + 16 * N) (TT.take j)) ++ tagB TT[j].tag ++ putL (sumI (blank4 TT[j])) 4) ++ putL (end4 (12 + 16 * N) (TT.take j) : Int) 4) ++ putL TT[j].data.length 4 by rw [hk, ents4_snoc]; unfold ent4; simp only [List.append_assoc])
          obtain ⟨b, o, A', c', rfl, hb, hc1, hc2, hK⟩ := h.row hT
          have hdl := blank4_len TT[j]
          have hdb := bytes_blank hbT
          have hUN := rf_blank TT[j]
          have hAD : adjT TT[j] = ((TT[j].tag.toList == [104, 101, 97, 100]) && decide (12 ≤ TT[j].data.length)) := rfl
          have hBL : (dir4 N ++ ents4 (12 + 16 * N) (TT.take j)).length ≤ 1100 := by rw [List.length_append, dir4_len, hll]; omega
          generalize TT[j] = T at *
          obtain ⟨s, L⟩ := T
          simp only at hml hc1 hc2 hs4 hbT hK HT1 HT3 hdl hUN hAD
          have c1 := (hS.1 _ _ hb).trans hc1
          have c2 := (hS.1 _ _ hb).trans hc2
          have hbw := hS.2.2.1 _ hb
          have hK := (hK.since (Nat.le_refl _) hS).more hS.below.size
          obtain ⟨n, hn0⟩ : ∃ n, n = L.length := ⟨_, rfl⟩
          rw [← hn0] at c2 hml HT1 HT3 hdl hAD
          have hnI : (n : Int) ≤ 1000000 := by omega
          have HC : Hid (∀ w2, Since wr w2 → Calls Tryz.prog 79 #[.agg #[.string s, .slice A' n c']] w2 fun e w' => ∃ Ad cd, e = .returned (.slice Ad n cd) ∧ OwnB w' w2.heap.size (.slice Ad n cd) (blank4 ⟨s, L⟩) ∧ Since w2 w') := Lib.hid (fun w2 h2 => (hUN A' n c' w2 (hK.on h2) hn0 (by omega)).mono (by
            rintro e w' ⟨v, rfl, hO, hS⟩
            obtain ⟨Ad, cd, rfl, _, _⟩ := hO.rd (by omega) byL_len
            rw [hdl] at hO ⊢
            exact ⟨Ad, cd, rfl, hO, hS⟩))
          have hsr := sumI_range (blank4 ⟨s, L⟩)
          have HSM := Lib.hid (fun Ad cd w2 hr => rf_sum4 Ad n cd (blank4 ⟨s, L⟩) w2 hr hdl.symm hdb (by omega))
          have HPD := Lib.hid (fun Ad cd w2 hr => rf_pad Ad n cd (blank4 ⟨s, L⟩) w2 hr hdl.symm (by omega))
          have hp4 := pad4_le n
          have hpe : end4 (12 + 16 * N) (TT.take j) + pad4 n ≤ 1048576 := by rw [← HT1.out]; exact hpe
          have hcase : ((s.toList == [104, 101, 97, 100]) = false ∧ adjT ⟨s, L⟩ = false) ∨ (s.toList = [104, 101, 97, 100] ∧ 12 ≤ n ∧ adjT ⟨s, L⟩ = true) ∨ (s.toList = [104, 101, 97, 100] ∧ ¬ 12 ≤ n ∧ adjT ⟨s, L⟩ = false) := by
            rw [hAD]
            by_cases h1 : s.toList = [104, 101, 97, 100]
            · by_cases h2 : 12 ≤ n
              · right; left; exact ⟨h1, h2, by rw [h1]; simp [h2]⟩
              · right; right; exact ⟨h1, h2, by rw [h1]; simp [h2]⟩
            · left
              have h3 : (s.toList == [104, 101, 97, 100]) = false := by simpa using h1
              exact ⟨h3, by rw [h3]; rfl⟩
          generalize blank4 ⟨s, L⟩ = DL at *
          generalize sumI DL = sm at *
          generalize adjT ⟨s, L⟩ = g at *
          generalize end4 (12 + 16 * N) (TT.take j) = p at *
          generalize adj4 (-1) (12 + 16 * N) (TT.take j) = x at *
          generalize dir4 N ++ ents4 (12 + 16 * N) (TT.take j) = BL at *
          generalize pad4 n = pn at *
          have m1 : IntKind.i64.wrap sm = sm := by rw [IntKind.wrap_i64]; omega
          have m2 : IntKind.i64.wrap ((p : Int) + 8) = (p : Int) + 8 := by rw [IntKind.wrap_i64]; omega
          have m3 : IntKind.i64.wrap ((p : Int) + (pn : Int)) = (p : Int) + (pn : Int) := by rw [IntKind.wrap_i64]; omega
          have i1 : In64 sm := by unfold In64; omega
          have i2 : In64 (p : Int) := by unfold In64; omega
          have i3 : In64 (n : Int) := by unfold In64; omega
          have l1 : BL.length + (tagB s).length ≤ 140737488355328 := by rw [tagB_len]; omega
          have l2 : (BL ++ tagB s).length ≤ 2000000 := by rw [List.length_append, tagB_len]; omega
          have l3 : (BL ++ tagB s ++ putL sm 4).length ≤ 2000000 := by rw [List.length_append, List.length_append, tagB_len, putL_len]; omega
          have l4 : (BL ++ tagB s ++ putL sm 4 ++ putL p 4).length ≤ 2000000 := by rw [List.length_append, List.length_append, List.length_append, tagB_len, putL_len, putL_len]; omega
          have e1 := Lib.hid (tagB_len s)
          have hcv := fun (w2 : World) => run_bytes_of_string (P := Tryz.prog) w2 9 34 5 s Tryz.underlying9 Tryz.underlying34 Tryz.underlying5
          clear hT h hc1 hc2 hjL hn0 hp4 hmem hk hll hlj hUN hdl hdb hBL hbT hs4 hAD
          rcases hcase with ⟨hb2, rfl⟩ | ⟨hb2, h12, rfl⟩ | ⟨hb2, h12, rfl⟩
          · have hb3 : ¬ s.toList = [104, 101, 97, 100] := by simpa using hb2
            clear hb2
            go_wp2_with (first | (go_at_call 79; (with_reducible refine (HC.out _ (by (repeat (first | with_reducible (exact Since.refl _) | with_reducible assumption | with_reducible (refine Since.drew ?_) | with_reducible (refine Since.drewN ?_ _) | with_reducible (refine Since.alloc ?_ _) | (with_reducible (refine Since.setCell ?_ ?_ _); rotate_left; focus (first | (simp; done) | (simp; omega) | omega)) | (with_reducible (refine Since.trans ?_ (by with_reducible assumption))))))).mono ?_); rintro e w2 ⟨Ad, cd, rfl, hOd, hSd⟩; obtain ⟨q1, q2, q3⟩ := two_tb hSd; have hXd : Since wr w2 := (by (repeat (first | with_reducible (exact Since.refl _) | with_reducible assumption | with_reducible (refine Since.drew ?_) | with_reducible (refine Since.drewN ?_ _) | with_reducible (refine Since.alloc ?_ _) | (with_reducible (refine Since.setCell ?_ ?_ _); rotate_left; focus (first | (simp; done) | (simp; omega) | omega)) | (with_reducible (refine Since.trans ?_ (by with_reducible assumption)))))); have hzw := hS.below.size; have HW : Wr4 w _ (.slice none 0 0) (.slice Ad n cd) BL [] DL wr.heap.size s A' n c' w2 := ⟨hB.since hXd, OwnG.nil _ _ _ _ _, hOd.low (by simp; omega), (fun q h1 h2 => by cases h2), (fun q h1 h2 => by have a1 := hB.lt h1; have a2 := hOd.lt h2; simp at a2; omega), (fun q h1 h2 => by cases h1), q1, q2, q3, (fun h1 => by have a1 := hB.lt h1; omega), (fun h1 => by cases h1), hS.trans hXd⟩; clear hOd hSd) | (at_builtin; refine wpList_append_b4 rfl (.tmp 54) (.tmp 57) (by rfl) (HW.since (((Since.refl w2).drew).alloc _)).s _ BL (by rfl) (HW.since (((Since.refl w2).drew).alloc _)).b _ (some ⟨w2.heap.size, 0, none⟩) s.size _ (tagB s) e1.out.symm (by rfl) (rdb_str w2 s _ _ rfl _ _) l1 ?_; intro v4 w4 hO4 hS4 hg4 hl4; have HW4 := (HW.since (((Since.refl w2).drew).alloc _)).growB hO4 hS4 hg4 hl4) | (go_at_call 80; (with_reducible refine (HSM.out Ad cd _ (own_rdw HW4.d)).mono ?_); rintro e w5 ⟨rfl, hw5⟩; have hw6 := hw5.symm; subst hw6; clear hw5) | (go_at_call 78; (with_reducible refine (HPT.out _ _ sm 4 4 _ HW4.s HW4.b i1 rfl (by omega) l2).mono ?_); rintro e w7 ⟨v7, w6, rfl, hO7, hS7, hS6, hg7, hl7⟩; have HW7 := (HW4.since hS6).growB hO7 hS7 hg7 hl7) | (go_at_call 78; (with_reducible refine (HPT.out _ _ (p : Int) 4 4 _ HW7.s HW7.b i2 rfl (by omega) l3).mono ?_); rintro e w9 ⟨v9, w8, rfl, hO9, hS9, hS8, hg9, hl9⟩; have HW9 := (HW7.since hS8).growB hO9 hS9 hg9 hl9) | (go_at_call 78; (with_reducible refine (HPT.out _ _ (n : Int) 4 4 _ HW9.s HW9.b i3 rfl (by omega) l4).mono ?_); rintro e wb ⟨vb, wa, rfl, hOb, hSb, hSa, hgb, hlb⟩; have HWb := (HW9.since hSa).growB hOb hSb hgb hlb; have u1 := HWb.x0; have u2 := HWb.x1; have u3 := HWb.xz) | (go_at_call 81; (with_reducible refine (HPD.out Ad cd _ (own_rdw HWb.d)).mono ?_); rintro e wc ⟨gc, dc, rfl, hgc, hrc, hSc⟩; have HWc := HWb.since hSc))
            go_roundw
            case rel => first | exact ⟨j + 1, by omega, by first | rfl | go_num | simp, by rw [HT1.out]; first | rfl | go_num | simp, by rw [HT2.out]; first | rfl | simp, by rw [HT3.out]; exact HWc.b, HWc.s⟩ | ((repeat apply Exists.intro); refine ⟨?_, rfl⟩; exact ⟨j + 1, by omega, by first | rfl | go_num | simp, by rw [HT1.out]; first | rfl | go_num | simp, by rw [HT2.out]; first | rfl | simp, by rw [HT3.out]; exact HWc.b, HWc.s⟩)
            case measure => simp [intOf]; omega
          · have d1 : decide ((12 : Int) ≤ (n : Int)) = true := by simp; omega
            have d2 : (12 : Int) ≤ (n : Int) := by omega
            go_wp2_with (first | (go_at_call 79; (with_reducible refine (HC.out _ (by (repeat (first | with_reducible (exact Since.refl _) | with_reducible assumption | with_reducible (refine Since.drew ?_) | with_reducible (refine Since.drewN ?_ _) | with_reducible (refine Since.alloc ?_ _) | (with_reducible (refine Since.setCell ?_ ?_ _); rotate_left; focus (first | (simp; done) | (simp; omega) | omega)) | (with_reducible (refine Since.trans ?_ (by with_reducible assumption))))))).mono ?_); rintro e w2 ⟨Ad, cd, rfl, hOd, hSd⟩; obtain ⟨q1, q2, q3⟩ := two_tb hSd; have hXd : Since wr w2 := (by (repeat (first | with_reducible (exact Since.refl _) | with_reducible assumption | with_reducible (refine Since.drew ?_) | with_reducible (refine Since.drewN ?_ _) | with_reducible (refine Since.alloc ?_ _) | (with_reducible (refine Since.setCell ?_ ?_ _); rotate_left; focus (first | (simp; done) | (simp; omega) | omega)) | (with_reducible (refine Since.trans ?_ (by with_reducible assumption)))))); have hzw := hS.below.size; have HW : Wr4 w _ (.slice none 0 0) (.slice Ad n cd) BL [] DL wr.heap.size s A' n c' w2 := ⟨hB.since hXd, OwnG.nil _ _ _ _ _, hOd.low (by simp; omega), (fun q h1 h2 => by cases h2), (fun q h1 h2 => by have a1 := hB.lt h1; have a2 := hOd.lt h2; simp at a2; omega), (fun q h1 h2 => by cases h1), q1, q2, q3, (fun h1 => by have a1 := hB.lt h1; omega), (fun h1 => by cases h1), hS.trans hXd⟩; clear hOd hSd) | (at_builtin; refine wpList_append_b4 rfl (.tmp 54) (.tmp 57) (by rfl) (HW.since (((Since.refl w2).drew).alloc _)).s _ BL (by rfl) (HW.since (((Since.refl w2).drew).alloc _)).b _ (some ⟨w2.heap.size, 0, none⟩) s.size _ (tagB s) e1.out.symm (by rfl) (rdb_str w2 s _ _ rfl _ _) l1 ?_; intro v4 w4 hO4 hS4 hg4 hl4; have HW4 := (HW.since (((Since.refl w2).drew).alloc _)).growB hO4 hS4 hg4 hl4) | (go_at_call 80; (with_reducible refine (HSM.out Ad cd _ (own_rdw HW4.d)).mono ?_); rintro e w5 ⟨rfl, hw5⟩; have hw6 := hw5.symm; subst hw6; clear hw5) | (go_at_call 78; (with_reducible refine (HPT.out _ _ sm 4 4 _ HW4.s HW4.b i1 rfl (by omega) l2).mono ?_); rintro e w7 ⟨v7, w6, rfl, hO7, hS7, hS6, hg7, hl7⟩; have HW7 := (HW4.since hS6).growB hO7 hS7 hg7 hl7) | (go_at_call 78; (with_reducible refine (HPT.out _ _ (p : Int) 4 4 _ HW7.s HW7.b i2 rfl (by omega) l3).mono ?_); rintro e w9 ⟨v9, w8, rfl, hO9, hS9, hS8, hg9, hl9⟩; have HW9 := (HW7.since hS8).growB hO9 hS9 hg9 hl9) | (go_at_call 78; (with_reducible refine (HPT.out _ _ (n : Int) 4 4 _ HW9.s HW9.b i3 rfl (by omega) l4).mono ?_); rintro e wb ⟨vb, wa, rfl, hOb, hSb, hSa, hgb, hlb⟩; have HWb := (HW9.since hSa).growB hOb hSb hgb hlb; have u1 := HWb.x0; have u2 := HWb.x1; have u3 := HWb.xz) | (go_at_call 81; (with_reducible refine (HPD.out Ad cd _ (own_rdw HWb.d)).mono ?_); rintro e wc ⟨gc, dc, rfl, hgc, hrc, hSc⟩; have HWc := HWb.since hSc))
            go_roundw
            case rel => first | exact ⟨j + 1, by omega, by first | rfl | go_num | simp, by rw [HT1.out]; first | rfl | go_num | simp, by rw [HT2.out]; first | rfl | simp, by rw [HT3.out]; exact HWc.b, HWc.s⟩ | ((repeat apply Exists.intro); refine ⟨?_, rfl⟩; exact ⟨j + 1, by omega, by first | rfl | go_num | simp, by rw [HT1.out]; first | rfl | go_num | simp, by rw [HT2.out]; first | rfl | simp, by rw [HT3.out]; exact HWc.b, HWc.s⟩)
            case measure => simp [intOf]; omega
          · have d1 : decide ((12 : Int) ≤ (n : Int)) = false := by simp; omega
            have d2 : ¬ (12 : Int) ≤ (n : Int) := by omega
            go_wp2_with (first | (go_at_call 79; (with_reducible refine (HC.out _ (by (repeat (first | with_reducible (exact Since.refl _) | with_reducible assumption | with_reducible (refine Since.drew ?_) | with_reducible (refine Since.drewN ?_ _) | with_reducible (refine Since.alloc ?_ _) | (with_reducible (refine Since.setCell ?_ ?_ _); rotate_left; focus (first | (simp; done) | (simp; omega) | omega)) | (with_reducible (refine Since.trans ?_ (by with_reducible assumption))))))).mono ?_); rintro e w2 ⟨Ad, cd, rfl, hOd, hSd⟩; obtain ⟨q1, q2, q3⟩ := two_tb hSd; have hXd : Since wr w2 := (by (repeat (first | with_reducible (exact Since.refl _) | with_reducible assumption | with_reducible (refine Since.drew ?_) | with_reducible (refine Since.drewN ?_ _) | with_reducible (refine Since.alloc ?_ _) | (with_reducible (refine Since.setCell ?_ ?_ _); rotate_left; focus (first | (simp; done) | (simp; omega) | omega)) | (with_reducible (refine Since.trans ?_ (by with_reducible assumption)))))); have hzw := hS.below.size; have HW : Wr4 w _ (.slice none 0 0) (.slice Ad n cd) BL [] DL wr.heap.size s A' n c' w2 := ⟨hB.since hXd, OwnG.nil _ _ _ _ _, hOd.low (by simp; omega), (fun q h1 h2 => by cases h2), (fun q h1 h2 => by have a1 := hB.lt h1; have a2 := hOd.lt h2; simp at a2; omega), (fun q h1 h2 => by cases h1), q1, q2, q3, (fun h1 => by have a1 := hB.lt h1; omega), (fun h1 => by cases h1), hS.trans hXd⟩; clear hOd hSd) | (at_builtin; refine wpList_append_b4 rfl (.tmp 54) (.tmp 57) (by rfl) (HW.since (((Since.refl w2).drew).alloc _)).s _ BL (by rfl) (HW.since (((Since.refl w2).drew).alloc _)).b _ (some ⟨w2.heap.size, 0, none⟩) s.size _ (tagB s) e1.out.symm (by rfl) (rdb_str w2 s _ _ rfl _ _) l1 ?_; intro v4 w4 hO4 hS4 hg4 hl4; have HW4 := (HW.since (((Since.refl w2).drew).alloc _)).growB hO4 hS4 hg4 hl4) | (go_at_call 80; (with_reducible refine (HSM.out Ad cd _ (own_rdw HW4.d)).mono ?_); rintro e w5 ⟨rfl, hw5⟩; have hw6 := hw5.symm; subst hw6; clear hw5) | (go_at_call 78; (with_reducible refine (HPT.out _ _ sm 4 4 _ HW4.s HW4.b i1 rfl (by omega) l2).mono ?_); rintro e w7 ⟨v7, w6, rfl, hO7, hS7, hS6, hg7, hl7⟩; have HW7 := (HW4.since hS6).growB hO7 hS7 hg7 hl7) | (go_at_call 78; (with_reducible refine (HPT.out _ _ (p : Int) 4 4 _ HW7.s HW7.b i2 rfl (by omega) l3).mono ?_); rintro e w9 ⟨v9, w8, rfl, hO9, hS9, hS8, hg9, hl9⟩; have HW9 := (HW7.since hS8).growB hO9 hS9 hg9 hl9) | (go_at_call 78; (with_reducible refine (HPT.out _ _ (n : Int) 4 4 _ HW9.s HW9.b i3 rfl (by omega) l4).mono ?_); rintro e wb ⟨vb, wa, rfl, hOb, hSb, hSa, hgb, hlb⟩; have HWb := (HW9.since hSa).growB hOb hSb hgb hlb; have u1 := HWb.x0; have u2 := HWb.x1; have u3 := HWb.xz) | (go_at_call 81; (with_reducible refine (HPD.out Ad cd _ (own_rdw HWb.d)).mono ?_); rintro e wc ⟨gc, dc, rfl, hgc, hrc, hSc⟩; have HWc := HWb.since hSc))
            go_roundw
            case rel => first | exact ⟨j + 1, by omega, by first | rfl | go_num | simp, by rw [HT1.out]; first | rfl | go_num | simp, by rw [HT2.out]; first | rfl | simp, by rw [HT3.out]; exact HWc.b, HWc.s⟩ | ((repeat apply Exists.intro); refine ⟨?_, rfl⟩; exact ⟨j + 1, by omega, by first | rfl | go_num | simp, by rw [HT1.out]; first | rfl | go_num | simp, by rw [HT2.out]; first | rfl | simp, by rw [HT3.out]; exact HWc.b, HWc.s⟩)
            case measure => simp [intOf]; omega
        · obtain rfl : N = j := by omega
          have hjn' : ¬ (N : Int) < (N : Int) := by omega
          have e : TT.take N = TT := by rw [HN.out]; exact List.take_length
          rw [e] at hB ⊢
          have HRW2 := Lib.hid (show raw4 TT = (dir4 N ++ ents4 (12 + 16 * N) TT) ++ body4 TT from HRW.out)
          have hBl : (dir4 N ++ ents4 (12 + 16 * N) TT).length + (body4 TT).length ≤ 1048576 := by have := HRL.out; rw [HRW.out, List.length_append] at this; exact this
          generalize dir4 N ++ ents4 (12 + 16 * N) TT = BL at *
          clear HRW hj e
          go_wp2_with fail
          go_loopw [5, 89] (fun vb y wx => ∃ (j : Nat), j ≤ N ∧ y = .int .i64 (j : Int) ∧ OwnB wx w.heap.size vb (BL ++ body4 (TT.take j)) ∧ Since w wx) (fun _ y _ => N - (intOf y).toNat)
          case atStart => exact ⟨0, by omega, rfl, by simpa [body4] using hB, hS⟩
          case round =>
            obtain ⟨j, hj, rfl, hO, hSx⟩ := hrel
            clear hB hS
            by_cases hjn : j < N
            · have hjn' : (j : Int) < N := by omega
              have hjL : j < TT.length := by rw [← HN.out]; exact hjn
              have hT : TT[j]? = some TT[j] := List.getElem?_eq_getElem hjL
              have hmem := List.mem_of_getElem? hT
              obtain ⟨hml, _⟩ := HF.out.2 _ hmem
              have hk := List.take_succ_eq_append_getElem hjL
              have hpe := HE.out (j + 1)
              have hyl := body4_len (TT.take (j + 1)) (12 + 16 * N)
              have HT4 := Lib.hid (show body4 (TT.take (j + 1)) = body4 (TT.take j) ++ padL (blank4 TT[j]) by rw [hk, body4_snoc])
              have hl4 : (body4 (TT.take j)).length + (padL (blank4 TT[j])).length ≤ 1048576 := by rw [← List.length_append, ← HT4.out]; omega
              obtain ⟨b, o, A', c', rfl, hb, hc1, hc2, hK⟩ := h.row hT
              have hdl := blank4_len TT[j]
              have hUN := rf_blank TT[j]
              generalize TT[j] = T at *
              obtain ⟨s, L⟩ := T
              simp only at hml hc1 hc2 hK hdl hUN
              have c1 := (hSx.1 _ _ hb).trans hc1
              have c2 := (hSx.1 _ _ hb).trans hc2
              have hbw := hSx.2.2.1 _ hb
              have hK := (hK.since (Nat.le_refl _) hSx).more hSx.below.size
              obtain ⟨n, hn0⟩ : ∃ n, n = L.length := ⟨_, rfl⟩
              rw [← hn0] at c2 hml hdl
              have hnI : (n : Int) ≤ 1000000 := by omega
              have HC : Hid (∀ w2, Since wr w2 → Calls Tryz.prog 79 #[.agg #[.string s, .slice A' n c']] w2 fun e w' => ∃ Ad cd, e = .returned (.slice Ad n cd) ∧ RdB w' w'.heap.size Ad (blank4 ⟨s, L⟩) ∧ Since w2 w') := Lib.hid (fun w2 h2 => (hUN A' n c' w2 (hK.on h2) hn0 (by omega)).mono (by
                rintro e w' ⟨v, rfl, hO, hS⟩
                obtain ⟨Ad, cd, rfl, _, hr⟩ := hO.rd (by omega) byL_len
                rw [hdl]
                exact ⟨Ad, cd, rfl, hr, hS⟩))
              have HPD := Lib.hid (fun Ad cd w2 hr => rf_pad Ad n cd (blank4 ⟨s, L⟩) w2 hr hdl.symm (by omega))
              have HPL := Lib.hid (show (padL (blank4 ⟨s, L⟩)).length = pad4 n by rw [padL_len, hdl])
              have l5 : (BL ++ body4 (TT.take j)).length + (padL (blank4 ⟨s, L⟩)).length ≤ 140737488355328 := by rw [List.length_append]; omega
              generalize blank4 ⟨s, L⟩ = DL at *
              generalize body4 (TT.take j) = YL at *
              generalize pad4 n = pn at *
              clear hT h hc1 hc2 hjL hn0 hmem hk hUN hdl hpe hyl hl4
              go_wp2_with (first | (go_at_call 79; (with_reducible refine (HC.out _ (by (repeat (first | with_reducible (exact Since.refl _) | with_reducible assumption | with_reducible (refine Since.drew ?_) | with_reducible (refine Since.drewN ?_ _) | with_reducible (refine Since.alloc ?_ _) | (with_reducible (refine Since.setCell ?_ ?_ _); rotate_left; focus (first | (simp; done) | (simp; omega) | omega)) | (with_reducible (refine Since.trans ?_ (by with_reducible assumption))))))).mono ?_); rintro e w2 ⟨Ad, cd, rfl, hrd, hSd⟩; have hXd : Since wr w2 := (by (repeat (first | with_reducible (exact Since.refl _) | with_reducible assumption | with_reducible (refine Since.drew ?_) | with_reducible (refine Since.drewN ?_ _) | with_reducible (refine Since.alloc ?_ _) | (with_reducible (refine Since.setCell ?_ ?_ _); rotate_left; focus (first | (simp; done) | (simp; omega) | omega)) | (with_reducible (refine Since.trans ?_ (by with_reducible assumption))))))) | (go_at_call 81; (with_reducible refine (HPD.out Ad cd _ hrd).mono ?_); rintro e wc ⟨gc, dc, rfl, hgc, hrc, hSc⟩; have hXc : Since wr wc := (by (repeat (first | with_reducible (exact Since.refl _) | with_reducible assumption | with_reducible (refine Since.drew ?_) | with_reducible (refine Since.drewN ?_ _) | with_reducible (refine Since.alloc ?_ _) | (with_reducible (refine Since.setCell ?_ ?_ _); rotate_left; focus (first | (simp; done) | (simp; omega) | omega)) | (with_reducible (refine Since.trans ?_ (by with_reducible assumption)))))); have hOc := hO.since hXc; have hSwc := hSx.trans hXc) | (at_builtin; refine wpList_append_b rfl (.tmp 93) (.tmp 96) (by rfl) hSwc _ (BL ++ YL) (by rfl) hOc _ (some ⟨gc, 0, none⟩) pn dc (padL DL) HPL.out.symm (by rfl) hrc l5 ?_; intro vd wd hOd hSd2))
              go_roundw
              case rel => first | exact ⟨j + 1, by omega, by first | rfl | go_num | simp, by rw [HT4.out, ← List.append_assoc]; exact hOd, hSd2⟩ | ((repeat apply Exists.intro); refine ⟨?_, rfl⟩; exact ⟨j + 1, by omega, by first | rfl | go_num | simp, by rw [HT4.out, ← List.append_assoc]; exact hOd, hSd2⟩)
              case measure => simp [intOf]; omega
            · obtain rfl : N = j := by omega
              have hjn' : ¬ (N : Int) < (N : Int) := by omega
              have e : TT.take N = TT := by rw [HN.out]; exact List.take_length
              rw [e, ← HRW2.out] at hO
              obtain ⟨A7, c7, rfl, hc7, hr7⟩ := hO.rd (by omega) byL_len
              have hRL := HRL.out
              have HAJ := HAJ.out
              have hsr := sumI_range (raw4 TT)
              have HSM := Lib.hid (fun Ad n cd w2 hr (hn : n = (raw4 TT).length) => rf_sum4 Ad n cd (raw4 TT) w2 hr hn HRB.out (by omega))
              have HAD := Lib.hid (fun w2 => ref_adjust (sumI (raw4 TT)) w2 hsr)
              clear h HE HF HTS HBY e hj hBl HRW2 hO
              generalize raw4 TT = R at *
              generalize adj4 (-1) (12 + 16 * N) TT = x at *
              obtain ⟨Z, hZ⟩ : ∃ Z, Z = R.length := ⟨_, rfl⟩
              have HZ := Lib.hid hZ
              rw [← hZ] at hRL ⊢
              rcases HAJ with hx | ⟨hx1, hx2⟩
              · have EF := Lib.hid (show file4 TT = R by rw [HFL.out, if_pos (by omega)])
                subst hx
                clear hZ
                go_wp2_with fail
                go_ret
                refine ⟨A7, ⟨c7, ?_⟩, by rw [EF.out]; exact hr7, hSx⟩
                rw [EF.out, ← HZ.out]
                rfl
              · obtain ⟨q, rfl⟩ : ∃ q : Nat, x = q := ⟨x.toNat, by omega⟩
                have EF := Lib.hid (show file4 TT = layL R q (putL ((2981146554 - sumI R) % 4294967296) 4) by rw [HFL.out, if_neg (by omega), Int.toNat_natCast])
                have hqZ : q + 4 ≤ R.length := by omega
                have hq0 : (0 : Int) ≤ (q : Int) := by omega
                have hadr : 0 ≤ (2981146554 - sumI R) % 4294967296 ∧ (2981146554 - sumI R) % 4294967296 < 4294967296 := by omega
                generalize sumI R = sm at *
                obtain ⟨ad, had⟩ : ∃ ad, ad = (2981146554 - sm) % 4294967296 := ⟨_, rfl⟩
                rw [← had] at HAD hadr EF
                have m1 : IntKind.i64.wrap ad = ad := by rw [IntKind.wrap_i64]; omega
                have HPQ := Lib.hid (fun w2 => rput_o 4 ad 4 w2 (by unfold In64; omega) rfl (by omega))
                have hlp := putL_len ad 4
                have HLY := Lib.hid (fun B d w2 (hS2 : Since wr w2) (hB2 : RdB w2 w2.heap.size B (putL ad 4)) => rf_lay4 A7 B Z c7 d R (putL ad 4) q w2 (hr7.on hS2) hB2 hZ hlp hqZ (by omega))
                have HLL := Lib.hid (layL_len R (putL ad 4) q (by rw [hlp]; exact hqZ))
                have HSZ := Lib.hid hSx
                clear hsr had hx1 hx2 hRL hZ hqZ hlp
                go_wp2_with (first | (go_at_call 80; (with_reducible refine (HSM.out _ _ _ _ hr7 HZ.out).mono ?_); rintro e w5 ⟨rfl, hw5⟩; have hw6 := hw5.symm; subst hw6; clear hw5) | (go_at_call 84; (with_reducible refine (HAD.out _).mono ?_); rintro e w6 ⟨rfl, hw6⟩; have hw7 := hw6.symm; subst hw7; clear hw6) | (go_at_call 83; (with_reducible refine (HPQ.out _).mono ?_); rintro e w9 ⟨g9, rfl, hg9, hO9, hS9⟩; have hr9 := own_rdw hO9) | (go_at_call 82; (with_reducible refine (HLY.out _ _ _ hS9 hr9).mono ?_); rintro e wa ⟨Aa, ca, rfl, hra, hSa⟩))
                go_ret
                refine ⟨Aa, ca, ?_, by rw [EF.out]; exact hra, hSx.trans (hS9.trans hSa)⟩
                rw [EF.out, HLL.out, ← HZ.out]
                rfl
end Go.Proofs.YteckkcpnfeoehaaGreatDoor

/-
  Layer 4: what an entry is read as; its tag.
-/
namespace Go.Proofs.YteckkcpnfeoehaaGreatDoor
set_option maxRecDepth 100000
open Go.RowKit Go.ChangeShapes Go.WideShapes Go.Deep
set_option linter.unusedVariables false
set_option linter.unusedSimpArgs false

def strOf (M : List Int) : ByteArray := ⟨(M.map (fun v => UInt8.ofNat v.toNat)).toArray⟩
def cutL (L : List Int) (p m : Nat) : List Int := (L.drop p).take m
theorem cutL_len {L : List Int} {p m : Nat} (h : p + m ≤ L.length) : (cutL L p m).length = m := by
  unfold cutL; rw [List.length_take, List.length_drop]; omega
theorem cutL_get {L : List Int} {p m j : Nat} (h : j < m) : fnL (cutL L p m) j = fnL L (p + j) := by
  unfold cutL fnL
  rw [List.getD_eq_getElem?_getD, List.getD_eq_getElem?_getD, List.getElem?_take_of_lt h, List.getElem?_drop]
theorem bytes_cut {L : List Int} (h : Bytes L) (p m : Nat) : Bytes (cutL L p m) := fun v hv => h v (List.mem_of_mem_drop (List.mem_of_mem_take hv))
/-- An entry: why it can't be read; its table. -/
def rd1 (L : List Int) (a : Nat) (last : ByteArray) : Int × Tb :=
  if TagG (strOf (cutL L a 4)) = false ∨ Op.bytesLess last.toList (strOf (cutL L a 4)).toList = false then (4, ⟨ByteArray.empty, []⟩)
  else
    let m := (numAt (fnL L) (a + 12) 4).toNat
    let p := if m = 0 then 0 else (numAt (fnL L) (a + 8) 4).toNat
    if L.length < p + m then (3, ⟨ByteArray.empty, []⟩)
    else if sumI (blank4 ⟨strOf (cutL L a 4), cutL L p m⟩) = numAt (fnL L) (a + 4) 4 then (0, ⟨strOf (cutL L a 4), blank4 ⟨strOf (cutL L a 4), cutL L p m⟩⟩)
    else (5, ⟨ByteArray.empty, []⟩)
theorem conv_str {w : World} {b o : Nat} {M : List Int} (hr : ∀ j, j < M.length → w.cell? ⟨b, o + j, none⟩ = some (.int .u8 (fnL M j))) (hb : Bytes M) (m : Nat) (hm : m = M.length) (k : Nat) :
    (convert 34 9 (.slice (some ⟨b, o, none⟩) m k)).run Tryz.prog w = .ok (.string (strOf M)) w := by
  subst hm
  have hl : (M.map (fun v => UInt8.ofNat v.toNat)).length = M.length := List.length_map ..
  have h0 := run_convert_bytes_back (P := Tryz.prog) w 34 9 5 ⟨b, o, none⟩ k (M.map (fun v => UInt8.ofNat v.toNat)) Tryz.underlying34 Tryz.underlying5 Tryz.underlying9 (fun j hj => by
    rw [hl] at hj
    rw [add_plain, hr j hj]
    congr 2
    rw [List.getElem_map]
    have h1 : fnL M j = M[j] := by unfold fnL; rw [List.getD_eq_getElem?_getD, List.getElem?_eq_getElem hj]; rfl
    have h2 := hb M[j] (List.getElem_mem hj)
    rw [h1, UInt8.toNat_ofNat']
    omega)
  rw [hl] at h0
  exact h0
theorem u4_l (A : Option Addr) (n c : Nat) (L : List Int) (a : Nat) (x : Int) (hx : x = (a : Int)) (w : World) (h : RdB w w.heap.size A L) (hn : n = L.length) (hb : Bytes L) (ha : a + 4 ≤ n) (hN : n ≤ 140737488355328) :
    Calls Tryz.prog 97 #[.slice A n c, .int .i64 x, .int .i64 4] w fun e w' => e = .returned (.tuple #[.int .i64 (numAt (fnL L) a 4), .int .i64 0]) ∧ w' = w := by
  subst hn; subst hx
  have h0 := be_u A L.length c (fnL L) (a : Int) 4 w (rdb_rd h) (bytes_fn hb) (by unfold In64; omega) (by unfold In64; omega) hN
  have e : uAns (fnL L) L.length (a : Int) 4 = (numAt (fnL L) a 4, 0) := by
    unfold uAns
    rw [if_neg (by omega), if_pos (by unfold Fits; omega), Int.toNat_natCast]
    rfl
  rw [e] at h0
  exact h0
theorem num4_range (L : List Int) (hb : Bytes L) (a : Nat) (ha : a + 4 ≤ L.length) : 0 ≤ numAt (fnL L) a 4 ∧ numAt (fnL L) a 4 < 4294967296 := by
  have h1 := numAt_range (f := fnL L) (p := a) (k := 4) (fun j hj => bytes_fn hb j (by omega))
  simp only [Int.reducePow] at h1
  exact h1
theorem cut_yes4 (A : Option Addr) (n c : Nat) (L : List Int) (p m : Nat) (x y : Int) (hx : x = (p : Int)) (hy : y = (m : Int)) (w : World) (h : RdB w w.heap.size A L) (hn : n = L.length) (hN : n ≤ 140737488355328) (hnc : n ≤ c) (hp : p + m ≤ n) :
    Calls Tryz.prog 123 #[.slice A n c, .int .i64 x, .int .i64 y] w fun e w' => ∃ A' k, e = .returned (.tuple #[.slice A' m k, .int .i64 0]) ∧ RdB w' w'.heap.size A' (cutL L p m) ∧ Since w w' := by
  subst hn; subst hx; subst hy
  have h0 := be_cut A L.length c (fnL L) (p : Int) (m : Int) w (rdb_rd h) (by unfold In64; omega) (by unfold In64; omega) hN hnc
  refine h0.mono ?_
  rintro e w' ⟨A', l, k, rfl, hl, _, hN, hS⟩
  obtain ⟨e1, e2⟩ := cut_yes (n := L.length) (i := (p : Int)) (k := (m : Int)) (by unfold Fits; omega)
  rw [e2, Int.toNat_natCast] at hl
  subst hl
  refine ⟨A', k, by rw [e1], rdb_of hN.rd (cutL_len hp).symm (fun j hj => ?_), hS⟩
  rw [cutL_get hj, Int.toNat_natCast]
theorem cut_no4 (A : Option Addr) (n c : Nat) (L : List Int) (p m : Nat) (x y : Int) (hx : x = (p : Int)) (hy : y = (m : Int)) (w : World) (h : RdB w w.heap.size A L) (hn : n = L.length) (hN : n ≤ 140737488355328) (hnc : n ≤ c) (hp : n < p + m) (hp1 : p < 4294967296) (hm1 : m < 4294967296) :
    Calls Tryz.prog 123 #[.slice A n c, .int .i64 x, .int .i64 y] w fun e w' => ∃ A' k, e = .returned (.tuple #[.slice A' 0 k, .int .i64 3]) ∧ Since w w' := by
  subst hn; subst hx; subst hy
  have h0 := be_cut A L.length c (fnL L) (p : Int) (m : Int) w (rdb_rd h) (by unfold In64; omega) (by unfold In64; omega) hN hnc
  refine h0.mono ?_
  rintro e w' ⟨A', l, k, rfl, hl, _, hN, hS⟩
  obtain ⟨e1, e2⟩ := cut_no (n := L.length) (i := (p : Int)) (k := (m : Int)) (by unfold Fits; omega)
  rw [e2] at hl
  subst hl
  exact ⟨A', k, by rw [e1], hS⟩
end Go.Proofs.YteckkcpnfeoehaaGreatDoor
