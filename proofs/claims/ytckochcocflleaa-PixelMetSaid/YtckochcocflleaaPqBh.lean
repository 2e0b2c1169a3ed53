/-
  Texts of this seat, put together: each with its own head.
-/
import Derived.Test.YtckochcocflleaaPqBg
import Derived.Deep.CutBlock
import Derived.Deep.DeepCutAuto

/-
  Rows told by a list: parts of what is read; append in a region that draws its order.
-/
namespace Go.Proofs.Ytckochcocflleaa
open Go.RowKit Go.ChangeShapes Go.WideShapes Go.Deep
set_option linter.unusedVariables false

theorem OwnG.empty {α : Type} {enc : α → List Value} {k : Nat} (t : TypeId) (w : World) (base b : Nat) (hb : b = w.heap.size) (hbase : base ≤ w.heap.size) : OwnG t k enc (w.alloc (.cells #[] t)) base (.slice (some ⟨b, 0, none⟩) 0 0) [] := by
  subst hb
  exact ⟨by simp [cellsG], .inr ⟨w.heap.size, 0, _, rfl, hbase, heap_alloc_new w _, Nat.le_refl _, by simp [maxLen], by simp, by simp [cellsG]⟩⟩
theorem RdG.drop {α : Type} {enc : α → List Value} {k : Nat} {w : World} {B b o : Nat} {L : List α} (h : RdG k enc w B (some ⟨b, o, none⟩) L) (d : Nat) : RdG k enc w B (some ⟨b, o + d * k, none⟩) (L.drop d) := fun hn => by
  obtain ⟨b', o', e, hb, hc⟩ := h (by rw [List.length_drop] at hn; omega)
  injection e with e
  injection e with e1 e2
  subst e1 e2
  refine ⟨b, o + d * k, rfl, hb, fun j s hj i hi => ?_⟩
  rw [List.getElem?_drop] at hj
  have h1 := hc (d + j) s hj i hi
  rw [Nat.add_mul, ← Nat.add_assoc] at h1
  exact h1
theorem RdG.take {α : Type} {enc : α → List Value} {k : Nat} {w : World} {B : Nat} {A : Option Addr} {L : List α} (h : RdG k enc w B A L) (d : Nat) : RdG k enc w B A (L.take d) := fun hn => by
  obtain ⟨b, o, rfl, hb, hc⟩ := h (by rw [List.length_take] at hn; omega)
  refine ⟨b, o, rfl, hb, fun j s hj i hi => hc j s ?_ i hi⟩
  rw [List.getElem?_take] at hj
  split at hj
  · exact hj
  · cases hj
section
variable {α : Type} {k : Nat} {enc : α → List Value} {P : Program}
theorem oper_append_g {w : World} {o : Oper} {a : Act} {K : Act → World → Prop} {Q : Exit → Act → World → Prop} (s x : Operand) (t e : TypeId)
    (ho : o.op = .call { callee := .builtin .append, args := #[s, x], argTypes := #[t, t] }) (hk0 : 0 < k) (hk : ∀ a, (enc a).length = k) (h1 : ∀ a, ∀ u ∈ enc a, u.oneCell' = true) (bytes : Nat)
    (ht : P.underlying t = some (.slice e)) (hinfo : ∃ i z, P.info? e = some i ∧ i.zero = some z ∧ i.size = k ∧ i.bytes = bytes ∧ z.cells.size = k)
    (base : Nat) (v : Value) (L : List α) (hs : a.eval s = v) (hown : OwnG e k enc w base v L) (B : Nat) (A : Option Addr) (n c : Nat) (M : List α) (hn : n = M.length) (hx : a.eval x = .slice A n c) (hr : RdG k enc w B A M)
    (hbytes : (L.length + M.length) * bytes ≤ 140737488355328) (h63 : L.length + M.length ≤ maxLen) (hbase : base ≤ w.heap.size)
    (h : ∀ v' w', OwnG e k enc w' base v' (L ++ M) → w.grownBy w' v.ownBlock → (∀ q, v.ownBlock = some q → base ≤ q ∧ q < w.heap.size) → K (a.put o.dst v') w') :
    Oper.wp P o a w K Q := by
  subst hn
  obtain ⟨i, z, hi, hz, hsz, hby, hzs⟩ := hinfo
  have hrr : Rd w B A (M.length * k) (fun j => (cellsG enc M).getD j undef) := fun hn => by
    have hM : 0 < M.length := by
      rcases Nat.eq_zero_or_pos M.length with h | h
      · rw [h, Nat.zero_mul] at hn; omega
      · exact h
    obtain ⟨b, o', rfl, hb, hc⟩ := hr hM
    refine ⟨b, o', rfl, hb, fun j hj => ?_⟩
    have hjk : j / k < M.length := by rw [Nat.div_lt_iff_lt_mul hk0]; exact hj
    have hm := Nat.mod_lt j hk0
    have hg := hc (j / k) _ (List.getElem?_eq_getElem hjk) (j % k) hm
    have hg2 := cellsG_get hk M (j / k) _ (List.getElem?_eq_getElem hjk) (j % k) hm
    rw [Nat.div_add_mod' j k] at hg2
    rw [Nat.add_assoc, Nat.div_add_mod' j k] at hg
    show _ = some ((cellsG enc M).getD j undef)
    rw [List.getD_eq_getElem?_getD, hg2, ← List.getD_eq_getElem?_getD]
    exact hg
  have hone : ∀ u ∈ tab (M.length * k) (fun j => (cellsG enc M).getD j undef), u.oneCell' = true := by
    rw [← cellsG_tab hk]
    intro u hu
    unfold cellsG at hu
    rw [List.mem_flatMap] at hu
    obtain ⟨a, _, ha⟩ := hu
    exact h1 a u ha
  have hlt := fun q (hq : v.ownBlock = some q) => hown.lt hq
  obtain ⟨v', w', hrun, h2, h3⟩ := run_append_k (P := P) w base t o.type e i z k bytes ht hi hz hsz hby hzs hk0 v L.length (cellsG enc L) hown B A M.length c _ hrr hone hbytes h63 hbase
  rw [← cellsG_tab hk, ← cellsG_append] at h2
  unfold Oper.wp execOp
  simp only [ho, resolve, invoke, builtin, Sem.run_bind, Sem.run_pure, Result.andThen_ok, List.map_toArray, List.map_cons, List.map_nil, hs, hx, hrun]
  refine h v' w' ?_ h3 hlt
  unfold OwnG
  rw [List.length_append]
  exact h2
end
end Go.Proofs.Ytckochcocflleaa

/-
  Layer 15: what good lines have in common has good numbers.
-/
namespace Go.Proofs.Ytckochcocflleaa
open Go.RowKit
set_option linter.unusedVariables false

theorem wf_lnG {s : Ln} (h : lnG s = true) : s.wf := by
  have k1 := goodB_iff.1 (Bool.and_eq_true_iff.1 h).1
  have k2 := goodB_iff.1 (Bool.and_eq_true_iff.1 h).2
  unfold Ln.wf InP In64
  omega
theorem meet_ok (s t : Ln) (hs : lnG s = true) (ht : lnG t = true) (w : World) : Calls Try.prog 66 #[s.v, t.v] w fun e w' => e = .returned (.tuple #[(meetG s t).v, .int .i64 0]) ∧ Since w w' := by
  have h := cr_meet s t (wf_lnG hs) (wf_lnG ht) w
  unfold meetCp meetE at h
  rw [hs, ht] at h
  exact h
theorem meet_d (s t : Ln) (hs : lnG s = true) (ht : lnG t = true) : (meetG s t).d ≤ 1125899906842624 := by
  have k1 := goodB_iff.1 (Bool.and_eq_true_iff.1 hs).1
  have k2 := goodB_iff.1 (Bool.and_eq_true_iff.1 hs).2
  have k3 := goodB_iff.1 (Bool.and_eq_true_iff.1 ht).1
  have k4 := goodB_iff.1 (Bool.and_eq_true_iff.1 ht).2
  have n1 : Near (s.bx - s.ax) := by unfold Near; omega
  have n2 : Near (s.bz - s.ay) := by unfold Near; omega
  have n5 : Near (t.bx - t.ax) := by unfold Near; omega
  have n6 : Near (t.bz - t.ay) := by unfold Near; omega
  have m5 := near_mul n1 n6; have m6 := near_mul n2 n5
  have hc : -562949953421312 ≤ cC s t ∧ cC s t ≤ 562949953421312 := by unfold cC crossI; omega
  unfold meetG
  split
  · decide
  · split
    · rcases touch_cases (ends s t) with ⟨_, e⟩ | ⟨x, _, e⟩ | e <;> rw [e]
      · decide
      · show (1 : Int) ≤ _; omega
      · decide
    · unfold crossCp
      split
      · rcases crossPos_k s (-nC s t) (-mC s t) (-cC s t) with ⟨_, e⟩ | ⟨_, e⟩ <;> rw [e]
        · show -cC s t ≤ _; omega
        · decide
      · rcases crossPos_k s (nC s t) (mC s t) (cC s t) with ⟨_, e⟩ | ⟨_, e⟩ <;> rw [e]
        · show cC s t ≤ _; omega
        · decide
theorem meet_sh (s t : Ln) (hs : lnG s = true) (ht : lnG t = true) (hk : (meetG s t).k = 1) : ShOK (meetG s t).x (meetG s t).d ∧ ShOK (meetG s t).y (meetG s t).d := by
  have k1 := goodB_iff.1 (Bool.and_eq_true_iff.1 hs).1
  have k2 := goodB_iff.1 (Bool.and_eq_true_iff.1 hs).2
  have hd := meet_d s t hs ht
  obtain ⟨h0, h1, h2, h3, h4⟩ := meetG_in s t hk
  have l1 : -4194304 ≤ lo2 s.ax s.bx := by unfold lo2; split <;> omega
  have l2 : hi2 s.ax s.bx ≤ 4194304 := by unfold hi2; split <;> omega
  have l3 : -4194304 ≤ lo2 s.ay s.bz := by unfold lo2; split <;> omega
  have l4 : hi2 s.ay s.bz ≤ 4194304 := by unfold hi2; split <;> omega
  have b1 : -4194304 * (meetG s t).d ≤ lo2 s.ax s.bx * (meetG s t).d := Int.mul_le_mul_of_nonneg_right l1 (by omega)
  have b2 : hi2 s.ax s.bx * (meetG s t).d ≤ 4194304 * (meetG s t).d := Int.mul_le_mul_of_nonneg_right l2 (by omega)
  have b3 : -4194304 * (meetG s t).d ≤ lo2 s.ay s.bz * (meetG s t).d := Int.mul_le_mul_of_nonneg_right l3 (by omega)
  have b4 : hi2 s.ay s.bz * (meetG s t).d ≤ 4194304 * (meetG s t).d := Int.mul_le_mul_of_nonneg_right l4 (by omega)
  unfold ShOK
  omega
theorem pixel_ok (s t : Ln) (hs : lnG s = true) (ht : lnG t = true) (w : World) : Calls Try.prog 67 #[(meetG s t).v] w fun e w' => e = .returned (.tuple #[Pt (pixX (meetG s t)) (pixY (meetG s t)), .bool ((meetG s t).k == 1)]) ∧ Since w w' :=
  cr_pixel _ (meet_sh s t hs ht) w
end Go.Proofs.Ytckochcocflleaa

/-
  Layer 16: 'Hot', walked.
-/
namespace Go.Proofs.Ytckochcocflleaa
open Go.RowKit Go.Maps
open Go.Sort
set_option linter.unusedVariables false

/-- What 'Hot' answers. -/
def HotOut (L : List Ln) (w : World) (e : Ending) (w' : World) : Prop :=
  Since w w' ∧ ((4096 < L.length ∧ e = .returned (.tuple #[.slice none 0 0, .int .i64 7])) ∨ (L.length ≤ 4096 ∧ (∃ l ∈ L, lnG l = false) ∧ e = .returned (.tuple #[.slice none 0 0, .int .i64 6])) ∨
    (L.length ≤ 4096 ∧ (∀ l ∈ L, lnG l = true) ∧ ∃ v H, e = .returned (.tuple #[v, .int .i64 0]) ∧ OwnG 34 2 ptL w' w.heap.size v H ∧ HotL L H))
set_option maxRecDepth 100000 in
set_option maxHeartbeats 4000000 in
theorem px_hot_many (A : Option Addr) (c : Nat) (L : List Ln) (w : World) (hL : 4096 < L.length) :
    Calls Try.prog 29 #[.slice A L.length c] w fun e w' => HotOut L w e w' := by
  obtain ⟨n, hn⟩ : ∃ n, n = L.length := ⟨_, rfl⟩
  have HN := Lib.hid hn
  rw [← hn] at hL ⊢
  have hL' : (4096 : Int) < n := by omega
  clear hn
  go_enter Try.func29, Try.ntmps29
  go_wp2_with fail
  go_ret2
  exact ⟨Since.refl _, .inl ⟨by rw [← HN.out]; exact hL, rfl⟩⟩
theorem map_heap {w : World} {b n : Nat} {M : List (Int × Int)} (h : MapOf w b n M) : ∀ cs t z, w.heap[b]? ≠ some (Obj.cells cs t z) := by
  obtain ⟨es, clock, hb, r⟩ := h
  intro cs t z e
  rw [hb] at e
  cases e
theorem endsP_len : ∀ L : List Ln, (endsP L).length = 2 * L.length
  | [] => rfl
  | a :: r => by
    have := endsP_len r
    unfold endsP at this ⊢
    rw [List.flatMap_cons, List.length_append, List.length_cons, this]
    simp
    omega
theorem metsP_len : ∀ Q : List (Ln × Ln), (metsP Q).length ≤ Q.length
  | [] => Nat.le_refl _
  | a :: r => by
    have h := metsP_len r
    have : (metP a.1 a.2).length ≤ 1 := by unfold metP; split <;> simp
    unfold metsP at h ⊢
    rw [List.flatMap_cons, List.length_append, List.length_cons]
    omega
theorem addKeys_len : ∀ (xs L : List Lit), (xs.foldl addKey L).length ≤ L.length + xs.length
  | [], L => Nat.le_refl _
  | y :: r, L => by
    rw [List.foldl_cons]
    have h := addKeys_len r (addKey L y)
    have : (addKey L y).length ≤ L.length + 1 := by unfold addKey; split <;> simp
    rw [List.length_cons]
    omega
theorem size_le {u : DataW Unit} {xs : List Lit} (h : ∀ x ∈ xs, WideAt.IsKeyLit x) : Maps.size (setOf u xs) ≤ xs.length := by
  rw [size_setOf u _ h]
  have := addKeys_len xs []
  simpa using this
theorem pxI_wf {x : Int} (h : -4194304 ≤ x ∧ x ≤ 4194304) : (Lit.int .i64 (pxI x)).wf = true := wf_of64 (by unfold pxI In64; omega)
theorem hot_wf {L : List Ln} {M : List (Int × Int)} (hg : ∀ l ∈ L, lnG l = true) (hm : ∀ e, e ∈ M ↔ IsHot L e) : WfL M := by
  intro e he
  rcases (hm e).1 he with ⟨l, hl, h⟩ | ⟨s, hs, t, ht, hk, h⟩
  · have k1 := goodB_iff.1 (Bool.and_eq_true_iff.1 (hg l hl)).1
    have k2 := goodB_iff.1 (Bool.and_eq_true_iff.1 (hg l hl)).2
    rcases h with rfl | rfl
    · exact ⟨pxI_wf (by omega), pxI_wf (by omega)⟩
    · exact ⟨pxI_wf (by omega), pxI_wf (by omega)⟩
  · obtain ⟨ha, e1⟩ := meet_k_apart hk
    rw [e1] at hk h
    have hsh := meet_sh s t (hg s hs) (hg t ht) hk
    have m1 := mid_in hsh.1
    have m2 := mid_in hsh.2
    rw [h]
    unfold pixX pixY
    rw [if_pos hk, if_pos hk]
    exact ⟨wf_of64 (by unfold In64; simp only; omega), wf_of64 (by unfold In64; simp only; omega)⟩
theorem invKp (key : Value) (kl : Lit) (h : keyOf Try.prog 34 key = some kl) : ∃ x : Pq, key = Pt x.x x.y := by
  obtain ⟨x, y, h, _⟩ := keyOf_pt_inv h
  exact ⟨⟨x, y⟩, h⟩
theorem nodup_len {α : Type} [DecidableEq α] : ∀ (H M : List α), H.Nodup → (∀ x ∈ H, x ∈ M) → H.length ≤ M.length
  | [], _, _, _ => Nat.zero_le _
  | a :: r, M, hn, hs => by
    obtain ⟨h1, h2⟩ := List.nodup_cons.1 hn
    have ha := hs a (by simp)
    have h3 := nodup_len r (M.erase a) h2 (fun x hx => (List.mem_erase_of_ne (fun e => h1 (by rw [← e]; exact hx))).2 (hs x (List.mem_cons_of_mem _ hx)))
    rw [List.length_erase_of_mem ha] at h3
    have : 0 < M.length := List.length_pos_of_mem ha
    rw [List.length_cons]
    omega
/-- What is gathered while some keys are left. -/
def HotH (M : List (Int × Int)) (left : Lit → Bool) (H : List Pq) : Prop := H.Nodup ∧ ∀ p : Pq, p ∈ H ↔ ((p.x, p.y) ∈ M ∧ left (kP p.x p.y) = false)
theorem HotH.len {M : List (Int × Int)} {left : Lit → Bool} {H : List Pq} (h : HotH M left H) : H.length ≤ M.length := by
  have h2 : (H.map fun p => (p.x, p.y)).Nodup := by
    refine List.Pairwise.map _ (fun a b hab e => hab ?_) h.1
    obtain ⟨a1, a2⟩ := a
    obtain ⟨b1, b2⟩ := b
    simp only [Prod.mk.injEq] at e
    rw [e.1, e.2]
  have h3 := nodup_len _ M h2 (fun x hx => by
    obtain ⟨p, hp, rfl⟩ := List.mem_map.1 hx
    exact ((h.2 p).1 hp).1)
  simpa using h3
theorem hotH_start {M : List (Int × Int)} (hW : WfL M) : HotH M (Maps.has (setOf (H := Unit) (.agg []) (kL M))) [] :=
  ⟨List.nodup_nil, fun p => ⟨(fun h => by cases h), fun ⟨h1, h2⟩ => by
    rw [(has_kL hW (hW _ h1).1 (hW _ h1).2).2 h1] at h2
    cases h2⟩⟩
theorem HotH.done {M : List (Int × Int)} {left : Lit → Bool} {H : List Pq} {L : List Ln} (h : HotH M left H) (hl : ∀ kl, left kl = false) (hm : ∀ e, e ∈ M ↔ IsHot L e) : H.Nodup ∧ ∀ p : Pq, p ∈ H ↔ IsHot L (p.x, p.y) :=
  ⟨h.1, fun p => by rw [h.2 p, hm, hl]; simp⟩
theorem HotH.step {M : List (Int × Int)} {left : Lit → Bool} {H : List Pq} (hW : WfL M) (h : HotH M left H) {p : Pq} (hp : (p.x, p.y) ∈ M) (hl : left (kP p.x p.y) = true) : HotH M (fun z => left z && !z.sameKey (kP p.x p.y)) (H ++ [p]) := by
  have hnot : p ∉ H := fun hh => by have := ((h.2 p).1 hh).2; rw [hl] at this; cases this
  refine ⟨?_, fun q => ?_⟩
  · rw [List.nodup_append]
    refine ⟨h.1, by simp, fun a ha b hb e => ?_⟩
    have : b = p := by simpa using hb
    subst this
    subst e
    exact hnot ha
  · rw [List.mem_append, List.mem_singleton]
    constructor
    · rintro (hq | rfl)
      · obtain ⟨h1, h2⟩ := (h.2 q).1 hq
        refine ⟨h1, ?_⟩
        show (left (kP q.x q.y) && !(kP q.x q.y).sameKey (kP p.x p.y)) = false
        rw [h2]; rfl
      · refine ⟨hp, ?_⟩
        show (left (kP q.x q.y) && !(kP q.x q.y).sameKey (kP q.x q.y)) = false
        have := WideAt.sameKey_self (kP_key (hW _ hp).1 (hW _ hp).2)
        simp only at this
        rw [this]; simp
    · rintro ⟨h1, h2⟩
      have h2 : (left (kP q.x q.y) && !(kP q.x q.y).sameKey (kP p.x p.y)) = false := h2
      cases hlq : left (kP q.x q.y)
      · exact .inl ((h.2 q).2 ⟨h1, hlq⟩)
      · rw [hlq] at h2
        have hs : (kP q.x q.y).sameKey (kP p.x p.y) = true := by simpa using h2
        obtain ⟨e1, e2⟩ := kP_inj (hW _ h1).1 (hW _ h1).2 (hW _ hp).1 (hW _ hp).2 (WideAt.sameKey_eq hs)
        right
        obtain ⟨a, b⟩ := q
        obtain ⟨c, d⟩ := p
        simp only at e1 e2
        rw [e1, e2]
theorem px_sortp_any (w0 w : World) (base : Nat) (v : Value) (L : List Pq) (hS : Since w0 w) (hb : w0.heap.size ≤ base) (hO : OwnG 34 2 ptL w base v L) (hL : L.length < 4611686018427387904) :
    Calls Try.prog 68 #[v, .func (.func 69) #[] #[]] w fun e w' => (∃ u, e = .returned u) ∧ ∃ L', List.Perm L' L ∧ SortedL (Go.Proofs.ltOf cmpP) L' ∧ OwnG 34 2 ptL w' base v L' ∧ Since w0 w' := by
  have hO2 := hO
  obtain ⟨_, h2⟩ := hO2
  rcases h2 with ⟨rfl, h0⟩ | ⟨g, cap, cur, rfl, _⟩
  · have hl0 : L = [] := List.length_eq_zero_iff.1 h0
    subst hl0
    have h := Go.Proofs.AnyF.slices_SortFunc_none sortPt none 0 (.func (.func 69) #[] #[]) w
    change Calls Try.prog 68 _ _ _ at h
    refine h.mono ?_
    rintro e w' ⟨rfl, rfl⟩
    exact ⟨⟨_, rfl⟩, [], List.Perm.refl _, List.Pairwise.nil, hO, hS⟩
  · refine (px_sortp w0 w base g cap L hS hb hO hL).mono ?_
    rintro e w' ⟨hv, L', hp, hs, ho, hs', hk⟩
    exact ⟨hv, L', hp, hs, ho, hs'⟩
theorem grown_of_since {w w' : World} (h : Since w w') : w.grownBy w' none := ⟨h.below.os, h.below.tape, h.below.output, h.below.size, fun i hi _ => h.below.block i hi⟩
theorem OwnG.ne_iter {α : Type} {enc : α → List Value} {t : TypeId} {k base b r n cnt : Nat} {w : World} {v : Value} {L : List α} {D : DataW Unit} {left : Lit → Bool} {kt : TypeId} {R : Value → Option (DataW Unit × List MemPlace)} (h : OwnG t k enc w base v L) {q : Nat} (hq : v.ownBlock = some q) (hr : w.ranges Try.prog kt R b r n D left cnt) : r ≠ q := by
  intro e
  subst e
  rcases h.2 with ⟨rfl, _⟩ | ⟨g, cap, cur, rfl, _, hh, _⟩
  · simp [Value.ownBlock] at hq
  · simp only [Value.ownBlock, Option.some.injEq] at hq
    subst hq
    obtain ⟨es, clock, sn, seen, c0, _, _, _, _, h5, _⟩ := hr
    rw [hh] at h5
    cases h5
theorem OwnG.ne_map {α : Type} {enc : α → List Value} {t : TypeId} {k base b n : Nat} {w : World} {v : Value} {L : List α} {D : DataW Unit} {kt : TypeId} {R : Value → Option (DataW Unit × List MemPlace)} (h : OwnG t k enc w base v L) {q : Nat} (hq : v.ownBlock = some q) (hr : w.ownsMap Try.prog kt R b n D) : b ≠ q := by
  intro e
  subst e
  rcases h.2 with ⟨rfl, _⟩ | ⟨g, cap, cur, rfl, _, hh, _⟩
  · simp [Value.ownBlock] at hq
  · simp only [Value.ownBlock, Option.some.injEq] at hq
    subst hq
    obtain ⟨es, clock, h5, _⟩ := hr
    rw [hh] at h5
    cases h5
def HotI (w0 : World) (bm bv : Nat) (L : List Ln) (d : List (Ln × Ln)) (w : World) : Prop :=
  ∃ n, n ≤ 8192 + d.length ∧ MapOf w bm n (endsP L ++ metsP d) ∧ w.cell? ⟨bv, 0, none⟩ = some (.map (some bm)) ∧ bv < w.heap.size ∧ Since w0 w
theorem metsP_snoc (d : List (Ln × Ln)) (s t : Ln) : metsP (d ++ [(s, t)]) = metsP d ++ metP s t := by unfold metsP; simp
theorem hot_step (w0 : World) (bm bv : Nat) (hbm : w0.heap.size ≤ bm) (hne : bm ≠ bv) (L : List Ln) (hwf : ∀ l ∈ L, l.wf) (hsh : ∀ s ∈ L, ∀ t ∈ L, (meetCp s t).k = 1 → ShOK (meetCp s t).x (meetCp s t).d ∧ ShOK (meetCp s t).y (meetCp s t).d) :
    StepP 65 #[.pointer (some ⟨bv, 0, none⟩)] L (HotI w0 bm bv L) := by
  intro d s t w1 hd hs ht ⟨n, hn, hM, hc, hl, hS⟩
  refine (px_hot1 s t (hwf s hs) (hwf t ht) (hsh s hs t ht) bv bm n _ w1 hc hl hM (by omega)).mono ?_
  rintro e w2 ⟨hv, n', hn', hM2, wy, hwy, hg⟩
  have hK : KC w1 w2 ∧ Since w0 w2 := by
    rcases hg with rfl | hg
    · exact ⟨KC.of_since hwy, hS.trans hwy⟩
    · exact ⟨(KC.of_since hwy).grown hg (map_heap (hM.since hwy)), since_grown (hS.trans hwy) hg (fun k hk => by injection hk with hk; omega)⟩
  refine ⟨hv, ⟨n', by rw [List.length_append]; simp; omega, by rw [metsP_snoc, ← List.append_assoc]; exact hM2, hK.1.cell hc, Nat.lt_of_lt_of_le hl hK.1.1, hK.2⟩, hK.1⟩
theorem LnAt.grown {w w' : World} {b B : Nat} {l : Ln} (h : LnAt w b l) (hg : w.grownBy w' (some B)) (hb : B ≠ b) : LnAt w' b l := by
  obtain ⟨h1, h2, h3, h4, h5⟩ := h
  have hr : (some B : Option Nat) ≠ some b := fun e => hb (by injection e)
  exact ⟨cell_grown h1 h5 hg hr, cell_grown h2 h5 hg hr, cell_grown h3 h5 hg hr, cell_grown h4 h5 hg hr, Nat.lt_of_lt_of_le h5 hg.size⟩
theorem endsP_take {L : List Ln} {j : Nat} {s : Ln} (h : L[j]? = some s) : endsP (L.take (j + 1)) = endsP (L.take j) ++ [(pxI s.ax, pxI s.ay)] ++ [(pxI s.bx, pxI s.bz)] := by
  unfold endsP
  rw [List.take_add_one, h]
  simp [pxA, pxB]
theorem MapOf.put {w' : World} {b n : Nat} {L : List (Int × Int)} {x y : Int} (h : World.ownsMap w' Try.prog 34 (unitElem (H := Unit)) b n ((setOf (.agg []) (kL L)).put (kP x y) (.agg []))) : MapOf w' b n (L ++ [(x, y)]) := by
  show World.ownsMap _ _ _ _ _ _ (setOf (.agg []) (kL (L ++ [(x, y)])))
  rw [kL_snoc]; exact h
set_option maxRecDepth 100000 in
set_option maxHeartbeats 16000000 in
theorem px_hot_few (A : Option Addr) (c : Nat) (L : List Ln) (w : World) (hr : RdG 4 lnE w w.heap.size A L) (hL : L.length ≤ 4096) (hwf : ∀ l ∈ L, l.wf) :
    Calls Try.prog 29 #[.slice A L.length c] w fun e w' => HotOut L w e w' := by
  have hmm := @run_makeMap Try.prog
  obtain ⟨n, hn⟩ : ∃ n, n = L.length := ⟨_, rfl⟩
  have HN := Lib.hid hn
  rw [← hn] at hL ⊢
  have HR := Lib.hid hr; have HWF := Lib.hid hwf
  have hLn : ¬ (4096 : Int) < n := by omega
  clear hn hr hwf
  go_enter Try.func29, Try.ntmps29
  go_wp2_with fail
  refine wp_named fun w0 hw0 => ?_
  have hM0 : MapOf w0 w.heap.size 0 (endsP (L.take 0)) := by subst hw0; exact (map_made w _ rfl).since ((Since.refl _).alloc _)
  have hc0 : w0.cell? ⟨w.heap.size + 1, 0, none⟩ = some (.map (some w.heap.size)) := by subst hw0; first | (simp; done) | (rw [World.cell?_alloc_new']; rfl)
  have hl0 : w.heap.size + 1 < w0.heap.size := by subst hw0; simp
  have hS0 : Since w w0 := by subst hw0; (repeat (first | with_reducible (exact Since.refl _) | with_reducible assumption | with_reducible (refine Since.drew ?_) | with_reducible (refine Since.drewN ?_ _) | with_reducible (refine Since.alloc ?_ _) | (with_reducible (refine Since.setCell ?_ ?_ _); rotate_left; focus (first | (simp; done) | (simp; omega) | omega)) | (with_reducible (refine Since.trans ?_ (by with_reducible assumption)))))
  clear hw0 hmm
  obtain ⟨bm, hbm⟩ : ∃ bm, bm = w.heap.size := ⟨_, rfl⟩
  have HBM := Lib.hid hbm
  have hbv : bm < bm + 1 := Nat.lt_succ_self _
  rw [← hbm] at hM0 hc0 hl0 ⊢
  clear hbm
  generalize bm + 1 = bv at *
  have hne : bm ≠ bv := Nat.ne_of_lt hbv
  go_loopw [15] (fun y wr => ∃ (j m : Nat), j ≤ n ∧ y = .int .i64 (j : Int) ∧ m ≤ 2 * j ∧ MapOf wr bm m (endsP (L.take j)) ∧ (∀ l ∈ L.take j, lnG l = true) ∧ wr.cell? ⟨bv, 0, none⟩ = some (.map (some bm)) ∧ bv < wr.heap.size ∧ Since w wr) (fun y _ => n - (intOf y).toNat)
  case atStart => exact ⟨0, 0, by omega, rfl, by omega, hM0, fun l h => by simp at h, hc0, hl0, hS0⟩
  case round =>
    obtain ⟨j, m, hj, rfl, hm, hM, hG, hc, hl, hS⟩ := hrel
    by_cases hjn : j < n
    · have hjn' : (j : Int) < n := by omega
      have hnn := HN.out
      obtain ⟨b, o, rfl, hb, hcell⟩ := HR.out (by omega)
      obtain ⟨s, hs⟩ : ∃ s, L[j]? = some s := ⟨_, List.getElem?_eq_getElem (by omega)⟩
      have hsL := List.mem_of_getElem? hs
      have c1 := (hS.1 _ _ hb).trans (hcell j _ hs 0 (by omega))
      have c2 := (hS.1 _ _ hb).trans (hcell j _ hs 1 (by omega))
      have c3 := (hS.1 _ _ hb).trans (hcell j _ hs 2 (by omega))
      have c4 := (hS.1 _ _ hb).trans (hcell j _ hs 3 (by omega))
      simp only [lnE, List.getD_cons_succ, List.getD_cons_zero, Nat.add_zero] at c1 c2 c3 c4
      have hj0 : (0 : Int) ≤ j := by omega
      have hbr : b < wr.heap.size := hS.2.2.1 _ hb
      have hwfs := HWF.out s hsL
      have HS := Lib.hid hs
      have HSL := Lib.hid hsL
      clear hnn hcell hs hsL
      go_upto_region 7 with fail
      refine wp_named fun wa hwa => ?_
      have hLa : LnAt wa wr.heap.size s := by subst hwa; exact ln_new wr _ rfl s _
      have hTa : Since wr wa := by subst hwa; exact (Since.refl _).alloc _
      have hMa := hM.since hTa
      have hca := (hTa.1 _ _ hl).trans hc
      have hla := hTa.2.2.1 _ hl
      have hSa := hS.trans hTa
      have hbs : bm ≠ wr.heap.size := Nat.ne_of_lt (show bm < wr.heap.size from hM.lt)
      clear hwa c1 c2 c3 c4 hM hc hl hS hTa
      obtain ⟨l1, l2, l3, l4, l5⟩ := id hLa
      have hg := fun w b hb t => good2 w b hb s.ax s.ay s.bx s.bz t hwfs.1 hwfs.2
      have hlg : (goodB s.ax s.ay && goodB s.bx s.bz) = lnG s := rfl
      simp only [hlg] at hg
      clear hlg
      generalize wr.heap.size = sb at *
      cases hgs : lnG s
      · rw [hgs] at hg
        have HG := Lib.hid hg; have HGS := Lib.hid hgs
        clear hg hgs
        go_wp2_with (go_at_call 59; (with_reducible refine (HG.out _ _ (by first | rfl | simp) _).mono ?_); rintro e w1 ⟨rfl, hS1⟩)
        go_ret2
        exact ⟨by (repeat (first | with_reducible (exact Since.refl _) | with_reducible assumption | with_reducible (refine Since.drew ?_) | with_reducible (refine Since.drewN ?_ _) | with_reducible (refine Since.alloc ?_ _) | (with_reducible (refine Since.setCell ?_ ?_ _); rotate_left; focus (first | (simp; done) | (simp; omega) | omega)) | (with_reducible (refine Since.trans ?_ (by with_reducible assumption))))), .inr (.inl ⟨by rw [← HN.out]; exact hL, ⟨s, HSL.out, HGS.out⟩, rfl⟩)⟩
      · rw [hgs] at hg
        have HG := Lib.hid hg; have HGS := Lib.hid hgs
        have hgg := hgs
        unfold lnG at hgg
        have i1 := goodB_iff.1 (Bool.and_eq_true_iff.1 hgg).1
        have i2 := goodB_iff.1 (Bool.and_eq_true_iff.1 hgg).2
        have HK1 := Lib.hid (keyOf_pt (pxI_wf (x := s.ax) (by omega)) (pxI_wf (x := s.ay) (by omega)))
        have HK2 := Lib.hid (keyOf_pt (pxI_wf (x := s.bx) (by omega)) (pxI_wf (x := s.bz) (by omega)))
        have HO1 := Lib.hid (fun w => px_of s.ax s.ay (by omega) (by omega) w)
        have HO2 := Lib.hid (fun w => px_of s.bx s.bz (by omega) (by omega) w)
        unfold Pt at HK1 HK2 HO1 HO2
        clear hg hgs hgg i1 i2
        go_upto_region 9 with (go_at_call 59; (with_reducible refine (HG.out _ _ (by first | rfl | simp) _).mono ?_); rintro e w1 ⟨rfl, hS1⟩; have hT1 : Since wa w1 := (by (repeat (first | with_reducible (exact Since.refl _) | with_reducible assumption | with_reducible (refine Since.drew ?_) | with_reducible (refine Since.drewN ?_ _) | with_reducible (refine Since.alloc ?_ _) | (with_reducible (refine Since.setCell ?_ ?_ _); rotate_left; focus (first | (simp; done) | (simp; omega) | omega)) | (with_reducible (refine Since.trans ?_ (by with_reducible assumption)))))); have hM1 := hMa.since hT1; have hc1 := (hT1.1 _ _ hla).trans hca; have hl1 := hT1.2.2.1 _ hla; have hT2 := hSa.trans hT1; have hL1 := hLa.since hT1)
        clear hS1 hT1 hMa hca hla hSa hLa l1 l2 l3 l4 l5
        obtain ⟨l1, l2, l3, l4, l5⟩ := id hL1
        go_cut [] (fun wx => ∃ m', m' ≤ 2 * j + 1 ∧ MapOf wx bm m' (endsP (L.take j) ++ [(pxI s.ax, pxI s.ay)]) ∧ wx.cell? ⟨bv, 0, none⟩ = some (.map (some bm)) ∧ bv < wx.heap.size ∧ Since w wx ∧ LnAt wx sb s)
        case first =>
          go_region_with (go_at_call 20; (with_reducible refine (HO1.out _).mono ?_); rintro e w2 ⟨rfl, hS2⟩; have hU2 : Since w1 w2 := (by (repeat (first | with_reducible (exact Since.refl _) | with_reducible assumption | with_reducible (refine Since.drew ?_) | with_reducible (refine Since.drewN ?_ _) | with_reducible (refine Since.alloc ?_ _) | (with_reducible (refine Since.setCell ?_ ?_ _); rotate_left; focus (first | (simp; done) | (simp; omega) | omega)) | (with_reducible (refine Since.trans ?_ (by with_reducible assumption)))))); have hM2 := hM1.since hU2; have hc2 := (hU2.1 _ _ hl1).trans hc1; have hl2 := hU2.2.2.1 _ hl1; obtain ⟨w3, hrun, hM3, hg3⟩ := hM2.update (t := 100) lawPt Try.underlying100 (by unfold maxLen; omega) HK1.out unitElem_mk)
          all_goals go_wp2_with fail
          all_goals go_meet
          all_goals exact ⟨m + 1, by omega, MapOf.put hM3, cell_grown hc2 hl2 hg3 (fun e => hne (by injection e)), Nat.lt_of_lt_of_le hl2 hg3.size, since_grown (hT2.trans hU2) hg3 (fun k hk => by have := HBM.out; injection hk with hk; omega), (hL1.since hU2).grown hg3 hbs⟩
        clear hM1 hc1 hl1 hT2 hL1 l1 l2 l3 l4 l5 HO1 HK1 HG
        obtain ⟨m1, hm1, hM1, hc1, hl1, hT2, hL1⟩ := hcut
        obtain ⟨l1, l2, l3, l4, l5⟩ := id hL1
        have hET := endsP_take HS.out
        have hGT : ∀ l ∈ L.take (j + 1), lnG l = true := fun l h => by
          rw [List.take_add_one, HS.out] at h
          rcases List.mem_append.1 h with h | h
          · exact hG l h
          · have h : l = s := by simpa using h
            subst h
            exact HGS.out
        have HET := Lib.hid hET; have HGT := Lib.hid hGT
        clear hET hGT hG
        go_upto_region 10 with fail
        go_region_with (go_at_call 20; (with_reducible refine (HO2.out _).mono ?_); rintro e w2 ⟨rfl, hS2⟩; have hU2 : Since wc w2 := (by (repeat (first | with_reducible (exact Since.refl _) | with_reducible assumption | with_reducible (refine Since.drew ?_) | with_reducible (refine Since.drewN ?_ _) | with_reducible (refine Since.alloc ?_ _) | (with_reducible (refine Since.setCell ?_ ?_ _); rotate_left; focus (first | (simp; done) | (simp; omega) | omega)) | (with_reducible (refine Since.trans ?_ (by with_reducible assumption)))))); have hM2 := hM1.since hU2; have hc2 := (hU2.1 _ _ hl1).trans hc1; have hl2 := hU2.2.2.1 _ hl1; obtain ⟨w3, hrun, hM3, hg3⟩ := hM2.update (t := 100) lawPt Try.underlying100 (by unfold maxLen; omega) HK2.out unitElem_mk)
        all_goals (
          clear hrun
          go_wp2_with fail
          go_roundw
          case rel => exact ⟨j + 1, m1 + 1, by omega, by go_num, by omega, by rw [HET.out]; exact MapOf.put hM3, HGT.out, cell_grown hc2 hl2 hg3 (fun e => hne (by injection e)), Nat.lt_of_lt_of_le hl2 hg3.size, since_grown (hT2.trans hU2) hg3 (fun k hk => by have := HBM.out; injection hk with hk; omega)⟩
          case measure => (simp only [intOf]; omega))
    · obtain rfl : j = n := by omega
      have hall : endsP (L.take j) = endsP L := by rw [List.take_of_length_le (by rw [← HN.out]; exact Nat.le_refl _)]
      have hGL : ∀ l ∈ L, lnG l = true := fun l h => hG l (by rw [List.take_of_length_le (by rw [← HN.out]; exact Nat.le_refl _)]; exact h)
      rw [hall] at hM
      have hI0 : HotI w bm bv L [] wr := ⟨m, by simp; omega, by show MapOf wr bm m (endsP L ++ metsP []); rw [show metsP [] = [] from rfl, List.append_nil]; exact hM, hc, hl, hS⟩
      have hRr := HR.out.on hS
      have hbm := HBM.out
      have hsh : ∀ s ∈ L, ∀ t ∈ L, (meetCp s t).k = 1 → ShOK (meetCp s t).x (meetCp s t).d ∧ ShOK (meetCp s t).y (meetCp s t).d := fun s hs t ht hk => by
        have e := (meet_k_apart hk).2
        rw [e] at hk ⊢
        exact meet_sh s t (hGL s hs) (hGL t ht) hk
      have hP := px_pairs A c L 65 #[.pointer (some ⟨bv, 0, none⟩)] (HotI w bm bv L) wr hRr (by rw [← HN.out]; exact hL) (enters_of Try.func65 (by kernel_rfl) rfl) hI0 (fun d w1 w2 ⟨n', h1, h2, h3, h4, h5⟩ hs => ⟨n', h1, h2.since hs, (hs.1 _ _ h4).trans h3, hs.2.2.1 _ h4, h5.trans hs⟩) (hot_step w bm bv (by omega) hne L HWF.out hsh)
      rw [← HN.out] at hP
      have HP := Lib.hid hP; have HGL := Lib.hid hGL
      clear hP hGL hsh hRr hI0 hall hM hG hbm
      have hjn' : ¬ (j : Int) < j := by omega
      go_upto_region 13 with (go_at_call 64; (with_reducible refine HP.out.mono ?_); rintro e w2 ⟨⟨v2, rfl⟩, L', hp, hs, ⟨m2, hm2, hM2, hc2, hl2, hS2⟩, hKK⟩)
      have hmem : ∀ e, e ∈ endsP L ++ metsP (prsOf L') ↔ IsHot L e := fun e => hot_iff hp hs e
      have hlen : (endsP L ++ metsP (prsOf L')).length ≤ 100000000 := by
        have h1 := prs_len L' 4096 (by rw [hp.length_eq, ← HN.out]; exact hL)
        rw [hp.length_eq, ← HN.out] at h1
        have h2 := metsP_len (prsOf L')
        rw [List.length_append, endsP_len, ← HN.out]
        omega
      have hW : WfL (endsP L ++ metsP (prsOf L')) := hot_wf HGL.out hmem
      have HMEM := Lib.hid hmem; have HW := Lib.hid hW
      clear hmem hW hp hs hKK HP
      obtain ⟨M, hMM⟩ : ∃ M, M = endsP L ++ metsP (prsOf L') := ⟨_, rfl⟩
      rw [← hMM] at hM2 hlen HMEM HW
      clear hMM hm2
      have hsz : Maps.size (setOf (H := Unit) (.agg []) (kL M)) ≤ 100000000 := Nat.le_trans (size_le (kL_key HW.out)) (by unfold kL; simpa using hlen)
      generalize hSZ : Maps.size (setOf (H := Unit) (.agg []) (kL M)) = sz at *
      have HSZ := Lib.hid hSZ
      clear hSZ
      go_upto_region 14 with (first | (at_len; refine wpList_len_own _ rfl _ 100 rfl 34 101 Try.underlying100 (unitElem (H := Unit)) bm m2 _ rfl hM2 ?_; rw [HSZ.out]) | (obtain ⟨i0, z0, hi0, hz0, hz1, hz2, hz3⟩ := infoPt; refine wpList_make_own _ rfl _ _ 49 rfl w.heap.size 34 i0 z0 2 Try.underlying49 hi0 hz0 hz1 _ _ _ sz rfl rfl rfl (by rw [hz2]; omega) (by unfold maxLen; omega) hS2.below.size ?_; clear hi0 hz0 hz1 hz2 hz3; intro w3 hO3 hg3))
      have hT3 : Since w2 w3 := since_grown (Since.refl _) hg3 (fun k hk => by cases hk)
      have hM3 := hM2.since hT3
      have hc3 := (hT3.1 _ _ hl2).trans hc2
      have hS3 := hS2.trans hT3
      have hl3 := hT3.2.2.1 _ hl2
      clear hM2 hc2 hS2 hT3 hg3
      go_wp2_with (first | (at_range; refine wpList_range_own _ rfl _ 100 rfl 34 101 lawPt Try.underlying100 (unitElem (H := Unit)) bm m2 _ rfl hM3 ?_; intro v9 hrg hgr9 hsz9))
      go_frame
      have hT9 : Since w3 v9 := since_grown (Since.refl _) hgr9 (fun k hk => by cases hk)
      have hO9 : OwnG 34 2 ptL v9 w.heap.size (.slice (some ⟨w2.heap.size, 0, none⟩) 0 sz) [] := OwnG.since (show OwnG 34 2 ptL w3 w.heap.size (.slice (some ⟨w2.heap.size, 0, none⟩) 0 sz) [] from hO3) hT9
      have hS9 := hS3.trans hT9
      have hbr : w.heap.size ≤ w3.heap.size := hS3.below.size
      clear hgr9 hsz9 hM3 hc3 hl3 hO3 hT9 hS3
      generalize w3.heap.size = r at *
      generalize w2.heap.size = g0 at *
      have HH0 := Lib.hid (hotH_start HW.out)
      have hml : M.length ≤ 100000000 := hlen
      clear hlen hsz HSZ
      go_loopw [7] (fun y wv => ∃ (left : Lit → Bool) (cnt : Nat) (H : List Pq), wv.ranges Try.prog 34 (unitElem (H := Unit)) bm r m2 (setOf (.agg []) (kL M)) left cnt ∧ OwnG 34 2 ptL wv w.heap.size y H ∧ Since w wv ∧ HotH M left H) (fun _ wv => wv.rangeLeft bm r)
      case atStart => exact ⟨_, _, [], hrg, hO9, hS9, HH0.out⟩
      case round =>
        obtain ⟨left, cnt, H, hrg, hO, hS, hH⟩ := hrel
        have hHl := hH.len
        have HH := Lib.hid hH
        clear hH hO9 hS9 HH0
        go_wp2_with (first | (at_next; refine wpList_next_ranges _ rfl _ rfl 34 lawPt (unitElem (H := Unit)) (fun x : Pq => Pt x.x x.y) (fun _ : Unit => .agg #[]) invKp invV bm r m2 _ _ _ rfl hrg ?_ ?_))
        · intro hc0 hl0
          have hend := HH.out.done hl0 HMEM.out
          have HEND := Lib.hid hend
          clear hend hc0 hl0 hrg HH
          go_wp2_with (go_at_call 68; (with_reducible refine (px_sortp_any w _ w.heap.size _ H hS (Nat.le_refl _) hO (by omega)).mono ?_); rintro e w6 ⟨⟨u6, rfl⟩, L2, hp2, hs2, hO6, hS6⟩)
          go_ret2
          exact ⟨hS6, .inr (.inr ⟨by rw [← HN.out]; exact hL, HGL.out, _, L2, rfl, hO6, strict_of hs2 (hp2.nodup_iff.2 HEND.out.1), fun p => hp2.mem_iff.trans (HEND.out.2 p)⟩)⟩
        · intro p kl y1 y2 w5 cnt5 hkey hlk hv hat hrg5 hlt hgr5 hsz5 hen
          obtain ⟨x0, y0, ek, rfl, wx, wy⟩ := keyOf_pt_inv hkey
          obtain ⟨rfl, rfl⟩ : x0 = p.x ∧ y0 = p.y := by unfold Pt at ek; simp at ek; exact ⟨ek.1.symm, ek.2.symm⟩
          have hin : (p.x, p.y) ∈ M := (has_kL HW.out wx wy).1 (Maps.has_true_of_atKey hat)
          have HH5 := Lib.hid (HH.out.step HW.out hin hlk)
          have hO5 := hO.grown hgr5 (fun q hq e => (hO.ne_iter hq hrg) (by injection e))
          have hS5 : Since w w5 := since_grown hS hgr5 (fun k hk => by injection hk with hk; omega)
          have HLT : Hid (w5.rangeLeft bm r < wr.rangeLeft bm r) := Lib.hid (by rw [hrg5.left_eq, hrg.left_eq]; exact hlt)
          have HRG := Lib.hid hrg5
          unfold Pt at hen
          have hr5 : r < w5.heap.size := hrg5.lt
          clear ek hkey hlk hv hat hrg5 hlt hgr5 hsz5 hrg hO hS HH wx wy hin
          go_upto_region 17 with fail
          refine wp_named fun wa hwa => ?_
          have hTa : Since w5 wa := by subst hwa; exact (Since.refl _).alloc _
          have hPa : PtAt wa w5.heap.size p.x p.y := by subst hwa; exact pt_new w5 _ rfl p.x p.y _
          have hRa := Lib.hid (HRG.out.kept (grown_of_since hTa) (by simp) (by simp))
          have hOa := Lib.hid (hO5.since hTa)
          have hSa := hS5.trans hTa
          clear hwa hTa hO5 hS5
          obtain ⟨p1, p2, p3⟩ := id hPa
          go_wp2_with (at_builtin; refine wpList_append_g rfl _ _ 49 34 rfl (by omega) ptL_len ptL_one 16 Try.underlying49 infoPt w.heap.size _ H rfl (OwnG.alloc (hOa.out) _) _ _ 1 [p] rfl (pt_one wa _ rfl _ p) (by simp only [List.length_cons, List.length_nil]; omega) (by simp only [List.length_cons, List.length_nil, maxLen]; omega) (by have := hSa.below.size; simp; omega) ?_; intro v7 w7 hO7 hg7 hb7)
          have hRg := (hRa.out.alloc (.cells #[.int .i64 p.x, .int .i64 p.y] 34)).kept hg7 (fun e => hOa.out.ne_map e.symm hRa.out.owns rfl) (fun e => hOa.out.ne_iter e.symm hRa.out rfl)
          have hS7 : Since w w7 := since_grown (hSa.alloc _) hg7 (fun k e => (hb7 k e).1)
          have hH7 := HH5.out
          go_roundw
          case rel => exact ⟨_, _, H ++ [p], hRg, hO7, hS7, hH7⟩
          case measure =>
            rw [hRg.left_eq, ← HRG.out.left_eq]
            exact HLT.out
theorem px_hot (A : Option Addr) (c : Nat) (L : List Ln) (w : World) (hr : RdG 4 lnE w w.heap.size A L) (hwf : ∀ l ∈ L, l.wf) :
    Calls Try.prog 29 #[.slice A L.length c] w fun e w' => HotOut L w e w' := by
  by_cases h : L.length ≤ 4096
  · exact px_hot_few A c L w hr h hwf
  · exact px_hot_many A c L w (by omega)
end Go.Proofs.Ytckochcocflleaa

/-
  Layer 16: 'after', 'before', walked.
-/
namespace Go.Proofs.Ytckochcocflleaa
open Go.RowKit
set_option linter.unusedVariables false

set_option maxRecDepth 100000 in
set_option maxHeartbeats 8000000 in
theorem px_after (w0 : World) (b : Nat) (s : Stc) (n d : Int) (o : Bool) (hn : In64 (n * s.ld)) (hd : In64 (s.ln * d)) (w : World) (hb : w0.heap.size ≤ b) (hS : Since w0 w) (hR : Row w b 6 (Stf s)) :
    Calls Try.prog 82 #[.pointer (some ⟨b, 0, none⟩), .agg #[.int .i64 n, .int .i64 d], .bool o] w (StPost w0 w b (aftS s n d o)) := by
  have hC := fun w => px_compare n d s.ln s.ld hn hd w
  have ha : aftS s n d o = if cmpF n d s.ln s.ld = 1 then ⟨n, d, s.hn, s.hd, o, s.ho⟩ else if cmpF n d s.ln s.ld = 0 then ⟨s.ln, s.ld, s.hn, s.hd, s.lo || o, s.ho⟩ else s := rfl
  have hcs := cmp_is (n * s.ld) (s.ln * d)
  change (cmpF n d s.ln s.ld = -1 ∧ _) ∨ (cmpF n d s.ln s.ld = 0 ∧ _) ∨ (cmpF n d s.ln s.ld = 1 ∧ _) at hcs
  obtain ⟨c0, c1, c2, c3, c4, c5, cb⟩ := stcells hR
  have hfr := hR.2.1
  have hR0 := hR
  clear hn hd
  rcases hcs with ⟨e, _⟩ | ⟨e, _⟩ | ⟨e, _⟩
  · rw [e] at hC ha
    simp at ha
    rw [ha]
    have HC := Lib.hid hC
    have HR := Lib.hid hR
    have HS := Lib.hid hS
    clear hC ha e hR hS hR0
    go_enter Try.func82, Try.ntmps82
    go_upto_region 1 with fail
    (refine wp_named fun wr1 hwr1 => ?_; go_region_held3 (fun w' => (∀ b o, b < wr1.heap.size → w'.cell? ⟨b, o, none⟩ = wr1.cell? ⟨b, o, none⟩) ∧ (∀ b o, b < wr1.heap.size → w'.frozen? ⟨b, o, none⟩ = wr1.frozen? ⟨b, o, none⟩) ∧ (∀ k, k < wr1.heap.size → k < w'.heap.size) ∧ Below wr1.heap.size wr1 w') ((subst hwr1; (repeat (with_reducible (refine since_put ?_ ?_ _); rotate_left; focus (first | (simp; done) | (simp; omega) | omega))); first | with_reducible assumption | (refine since_step (by with_reducible assumption) ?_; first | with_reducible assumption | ((repeat (first | with_reducible (exact Since.refl _) | with_reducible assumption | with_reducible (refine Since.drew ?_) | with_reducible (refine Since.drewN ?_ _) | with_reducible (refine Since.alloc ?_ _) | (with_reducible (refine Since.setCell ?_ ?_ _); rotate_left; focus (first | (simp; done) | (simp; omega) | omega)))); done)) | (refine since_step (Since.refl _) ?_; first | with_reducible assumption | ((repeat (first | with_reducible (exact Since.refl _) | with_reducible assumption | with_reducible (refine Since.drew ?_) | with_reducible (refine Since.drewN ?_ _) | with_reducible (refine Since.alloc ?_ _) | (with_reducible (refine Since.setCell ?_ ?_ _); rotate_left; focus (first | (simp; done) | (simp; omega) | omega)) | (with_reducible (refine Since.trans ?_ (by with_reducible assumption))))); done)))) ((go_at_call 84; (with_reducible refine (HC.out _).mono ?_); rintro e w1 ⟨rfl, hS1⟩; have hZ1 := hS1.below.size; (try simp at hZ1))); all_goals (rename_i hHeld; have hR1 : Since wr1 _ := hHeld; obtain ⟨hcR1, hfR1, hzR1, hbR1⟩ := hHeld; subst hwr1))
    have g4 := (hR1.1 b 4 (by simp; omega)).trans ((World.cell?_alloc_lt w _ ⟨b, 4, none⟩ cb).trans c4)
    have g5 := (hR1.1 b 5 (by simp; omega)).trans ((World.cell?_alloc_lt w _ ⟨b, 5, none⟩ cb).trans c5)
    have hRw := (HR.out.alloc (.cells #[.int .i64 n, .int .i64 d] 91)).since hR1
    have hSw := (HS.out.alloc (.cells #[.int .i64 n, .int .i64 d] 91)).trans hR1
    have hKw := ((KeepBut.refl b w).since ((Since.refl w).alloc (.cells #[.int .i64 n, .int .i64 d] 91))).since hR1
    have HRw := Lib.hid hRw; have HSw := Lib.hid hSw; have HKw := Lib.hid hKw
    clear hRw hSw hKw
    all_goals (go_wp2_with fail)
    refine bodyPost_end (results_none rfl _ _ _) rfl ?_
    exact ⟨⟨_, rfl⟩, HRw.out, HSw.out, HKw.out⟩
  · rw [e] at hC ha
    simp at ha
    rw [ha]
    have HC := Lib.hid hC
    have HR := Lib.hid hR
    have HS := Lib.hid hS
    clear hC ha e hR hS hR0
    go_enter Try.func82, Try.ntmps82
    go_upto_region 1 with fail
    (refine wp_named fun wr1 hwr1 => ?_; go_region_held3 (fun w' => (∀ b o, b < wr1.heap.size → w'.cell? ⟨b, o, none⟩ = wr1.cell? ⟨b, o, none⟩) ∧ (∀ b o, b < wr1.heap.size → w'.frozen? ⟨b, o, none⟩ = wr1.frozen? ⟨b, o, none⟩) ∧ (∀ k, k < wr1.heap.size → k < w'.heap.size) ∧ Below wr1.heap.size wr1 w') ((subst hwr1; (repeat (with_reducible (refine since_put ?_ ?_ _); rotate_left; focus (first | (simp; done) | (simp; omega) | omega))); first | with_reducible assumption | (refine since_step (by with_reducible assumption) ?_; first | with_reducible assumption | ((repeat (first | with_reducible (exact Since.refl _) | with_reducible assumption | with_reducible (refine Since.drew ?_) | with_reducible (refine Since.drewN ?_ _) | with_reducible (refine Since.alloc ?_ _) | (with_reducible (refine Since.setCell ?_ ?_ _); rotate_left; focus (first | (simp; done) | (simp; omega) | omega)))); done)) | (refine since_step (Since.refl _) ?_; first | with_reducible assumption | ((repeat (first | with_reducible (exact Since.refl _) | with_reducible assumption | with_reducible (refine Since.drew ?_) | with_reducible (refine Since.drewN ?_ _) | with_reducible (refine Since.alloc ?_ _) | (with_reducible (refine Since.setCell ?_ ?_ _); rotate_left; focus (first | (simp; done) | (simp; omega) | omega)) | (with_reducible (refine Since.trans ?_ (by with_reducible assumption))))); done)))) ((go_at_call 84; (with_reducible refine (HC.out _).mono ?_); rintro e w1 ⟨rfl, hS1⟩; have hZ1 := hS1.below.size; (try simp at hZ1))); all_goals (rename_i hHeld; have hR1 : Since wr1 _ := hHeld; obtain ⟨hcR1, hfR1, hzR1, hbR1⟩ := hHeld; subst hwr1))
    have g4 := (hR1.1 b 4 (by simp; omega)).trans ((World.cell?_alloc_lt w _ ⟨b, 4, none⟩ cb).trans c4)
    have g5 := (hR1.1 b 5 (by simp; omega)).trans ((World.cell?_alloc_lt w _ ⟨b, 5, none⟩ cb).trans c5)
    have hRw := (HR.out.alloc (.cells #[.int .i64 n, .int .i64 d] 91)).since hR1
    have hSw := (HS.out.alloc (.cells #[.int .i64 n, .int .i64 d] 91)).trans hR1
    have hKw := ((KeepBut.refl b w).since ((Since.refl w).alloc (.cells #[.int .i64 n, .int .i64 d] 91))).since hR1
    have HRw := Lib.hid hRw; have HSw := Lib.hid hSw; have HKw := Lib.hid hKw
    clear hRw hSw hKw
    all_goals (go_wp2_with fail)
    all_goals refine bodyPost_end (results_none rfl _ _ _) rfl ?_
    all_goals first
      | (rw [show (s.lo || o) = true by simp_all]; exact ⟨⟨_, rfl⟩, st_lo HRw.out true, HSw.out.setCell hb _, HKw.out.set _ _⟩)
      | (rw [show (s.lo || o) = o by simp_all]; exact ⟨⟨_, rfl⟩, st_lo HRw.out o, HSw.out.setCell hb _, HKw.out.set _ _⟩)
  · rw [e] at hC ha
    simp at ha
    rw [ha]
    have HC := Lib.hid hC
    have HR := Lib.hid hR
    have HS := Lib.hid hS
    clear hC ha e hR hS hR0
    go_enter Try.func82, Try.ntmps82
    go_upto_region 1 with fail
    (refine wp_named fun wr1 hwr1 => ?_; go_region_held3 (fun w' => (∀ b o, b < wr1.heap.size → w'.cell? ⟨b, o, none⟩ = wr1.cell? ⟨b, o, none⟩) ∧ (∀ b o, b < wr1.heap.size → w'.frozen? ⟨b, o, none⟩ = wr1.frozen? ⟨b, o, none⟩) ∧ (∀ k, k < wr1.heap.size → k < w'.heap.size) ∧ Below wr1.heap.size wr1 w') ((subst hwr1; (repeat (with_reducible (refine since_put ?_ ?_ _); rotate_left; focus (first | (simp; done) | (simp; omega) | omega))); first | with_reducible assumption | (refine since_step (by with_reducible assumption) ?_; first | with_reducible assumption | ((repeat (first | with_reducible (exact Since.refl _) | with_reducible assumption | with_reducible (refine Since.drew ?_) | with_reducible (refine Since.drewN ?_ _) | with_reducible (refine Since.alloc ?_ _) | (with_reducible (refine Since.setCell ?_ ?_ _); rotate_left; focus (first | (simp; done) | (simp; omega) | omega)))); done)) | (refine since_step (Since.refl _) ?_; first | with_reducible assumption | ((repeat (first | with_reducible (exact Since.refl _) | with_reducible assumption | with_reducible (refine Since.drew ?_) | with_reducible (refine Since.drewN ?_ _) | with_reducible (refine Since.alloc ?_ _) | (with_reducible (refine Since.setCell ?_ ?_ _); rotate_left; focus (first | (simp; done) | (simp; omega) | omega)) | (with_reducible (refine Since.trans ?_ (by with_reducible assumption))))); done)))) ((go_at_call 84; (with_reducible refine (HC.out _).mono ?_); rintro e w1 ⟨rfl, hS1⟩; have hZ1 := hS1.below.size; (try simp at hZ1))); all_goals (rename_i hHeld; have hR1 : Since wr1 _ := hHeld; obtain ⟨hcR1, hfR1, hzR1, hbR1⟩ := hHeld; subst hwr1))
    have g4 := (hR1.1 b 4 (by simp; omega)).trans ((World.cell?_alloc_lt w _ ⟨b, 4, none⟩ cb).trans c4)
    have g5 := (hR1.1 b 5 (by simp; omega)).trans ((World.cell?_alloc_lt w _ ⟨b, 5, none⟩ cb).trans c5)
    have hRw := (HR.out.alloc (.cells #[.int .i64 n, .int .i64 d] 91)).since hR1
    have hSw := (HS.out.alloc (.cells #[.int .i64 n, .int .i64 d] 91)).trans hR1
    have hKw := ((KeepBut.refl b w).since ((Since.refl w).alloc (.cells #[.int .i64 n, .int .i64 d] 91))).since hR1
    have HRw := Lib.hid hRw; have HSw := Lib.hid hSw; have HKw := Lib.hid hKw
    clear hRw hSw hKw
    all_goals (go_wp2_with fail)
    refine bodyPost_end (results_none rfl _ _ _) rfl ?_
    exact ⟨⟨_, rfl⟩, st_low HRw.out n d o, ((HSw.out.setCell hb _).setCell hb _).setCell hb _, ((HKw.out.set _ _).set _ _).set _ _⟩
set_option maxRecDepth 100000 in
set_option maxHeartbeats 8000000 in
theorem px_before (w0 : World) (b : Nat) (s : Stc) (n d : Int) (o : Bool) (hn : In64 (n * s.hd)) (hd : In64 (s.hn * d)) (w : World) (hb : w0.heap.size ≤ b) (hS : Since w0 w) (hR : Row w b 6 (Stf s)) :
    Calls Try.prog 83 #[.pointer (some ⟨b, 0, none⟩), .agg #[.int .i64 n, .int .i64 d], .bool o] w (StPost w0 w b (befS s n d o)) := by
  have hC := fun w => px_compare n d s.hn s.hd hn hd w
  have ha : befS s n d o = if cmpF n d s.hn s.hd = -1 then ⟨s.ln, s.ld, n, d, s.lo, o⟩ else if cmpF n d s.hn s.hd = 0 then ⟨s.ln, s.ld, s.hn, s.hd, s.lo, s.ho || o⟩ else s := rfl
  have hcs := cmp_is (n * s.hd) (s.hn * d)
  change (cmpF n d s.hn s.hd = -1 ∧ _) ∨ (cmpF n d s.hn s.hd = 0 ∧ _) ∨ (cmpF n d s.hn s.hd = 1 ∧ _) at hcs
  obtain ⟨c0, c1, c2, c3, c4, c5, cb⟩ := stcells hR
  have hfr := hR.2.1
  have hR0 := hR
  clear hn hd
  rcases hcs with ⟨e, _⟩ | ⟨e, _⟩ | ⟨e, _⟩
  · rw [e] at hC ha
    simp at ha
    rw [ha]
    have HC := Lib.hid hC
    have HR := Lib.hid hR
    have HS := Lib.hid hS
    clear hC ha e hR hS hR0
    go_enter Try.func83, Try.ntmps83
    go_upto_region 1 with fail
    (refine wp_named fun wr1 hwr1 => ?_; go_region_held3 (fun w' => (∀ b o, b < wr1.heap.size → w'.cell? ⟨b, o, none⟩ = wr1.cell? ⟨b, o, none⟩) ∧ (∀ b o, b < wr1.heap.size → w'.frozen? ⟨b, o, none⟩ = wr1.frozen? ⟨b, o, none⟩) ∧ (∀ k, k < wr1.heap.size → k < w'.heap.size) ∧ Below wr1.heap.size wr1 w') ((subst hwr1; (repeat (with_reducible (refine since_put ?_ ?_ _); rotate_left; focus (first | (simp; done) | (simp; omega) | omega))); first | with_reducible assumption | (refine since_step (by with_reducible assumption) ?_; first | with_reducible assumption | ((repeat (first | with_reducible (exact Since.refl _) | with_reducible assumption | with_reducible (refine Since.drew ?_) | with_reducible (refine Since.drewN ?_ _) | with_reducible (refine Since.alloc ?_ _) | (with_reducible (refine Since.setCell ?_ ?_ _); rotate_left; focus (first | (simp; done) | (simp; omega) | omega)))); done)) | (refine since_step (Since.refl _) ?_; first | with_reducible assumption | ((repeat (first | with_reducible (exact Since.refl _) | with_reducible assumption | with_reducible (refine Since.drew ?_) | with_reducible (refine Since.drewN ?_ _) | with_reducible (refine Since.alloc ?_ _) | (with_reducible (refine Since.setCell ?_ ?_ _); rotate_left; focus (first | (simp; done) | (simp; omega) | omega)) | (with_reducible (refine Since.trans ?_ (by with_reducible assumption))))); done)))) ((go_at_call 84; (with_reducible refine (HC.out _).mono ?_); rintro e w1 ⟨rfl, hS1⟩; have hZ1 := hS1.below.size; (try simp at hZ1))); all_goals (rename_i hHeld; have hR1 : Since wr1 _ := hHeld; obtain ⟨hcR1, hfR1, hzR1, hbR1⟩ := hHeld; subst hwr1))
    have g4 := (hR1.1 b 4 (by simp; omega)).trans ((World.cell?_alloc_lt w _ ⟨b, 4, none⟩ cb).trans c4)
    have g5 := (hR1.1 b 5 (by simp; omega)).trans ((World.cell?_alloc_lt w _ ⟨b, 5, none⟩ cb).trans c5)
    have hRw := (HR.out.alloc (.cells #[.int .i64 n, .int .i64 d] 91)).since hR1
    have hSw := (HS.out.alloc (.cells #[.int .i64 n, .int .i64 d] 91)).trans hR1
    have hKw := ((KeepBut.refl b w).since ((Since.refl w).alloc (.cells #[.int .i64 n, .int .i64 d] 91))).since hR1
    have HRw := Lib.hid hRw; have HSw := Lib.hid hSw; have HKw := Lib.hid hKw
    clear hRw hSw hKw
    all_goals (go_wp2_with fail)
    refine bodyPost_end (results_none rfl _ _ _) rfl ?_
    exact ⟨⟨_, rfl⟩, st_high HRw.out n d o, ((HSw.out.setCell hb _).setCell hb _).setCell hb _, ((HKw.out.set _ _).set _ _).set _ _⟩
  · rw [e] at hC ha
    simp at ha
    rw [ha]
    have HC := Lib.hid hC
    have HR := Lib.hid hR
    have HS := Lib.hid hS
    clear hC ha e hR hS hR0
    go_enter Try.func83, Try.ntmps83
    go_upto_region 1 with fail
    (refine wp_named fun wr1 hwr1 => ?_; go_region_held3 (fun w' => (∀ b o, b < wr1.heap.size → w'.cell? ⟨b, o, none⟩ = wr1.cell? ⟨b, o, none⟩) ∧ (∀ b o, b < wr1.heap.size → w'.frozen? ⟨b, o, none⟩ = wr1.frozen? ⟨b, o, none⟩) ∧ (∀ k, k < wr1.heap.size → k < w'.heap.size) ∧ Below wr1.heap.size wr1 w') ((subst hwr1; (repeat (with_reducible (refine since_put ?_ ?_ _); rotate_left; focus (first | (simp; done) | (simp; omega) | omega))); first | with_reducible assumption | (refine since_step (by with_reducible assumption) ?_; first | with_reducible assumption | ((repeat (first | with_reducible (exact Since.refl _) | with_reducible assumption | with_reducible (refine Since.drew ?_) | with_reducible (refine Since.drewN ?_ _) | with_reducible (refine Since.alloc ?_ _) | (with_reducible (refine Since.setCell ?_ ?_ _); rotate_left; focus (first | (simp; done) | (simp; omega) | omega)))); done)) | (refine since_step (Since.refl _) ?_; first | with_reducible assumption | ((repeat (first | with_reducible (exact Since.refl _) | with_reducible assumption | with_reducible (refine Since.drew ?_) | with_reducible (refine Since.drewN ?_ _) | with_reducible (refine Since.alloc ?_ _) | (with_reducible (refine Since.setCell ?_ ?_ _); rotate_left; focus (first | (simp; done) | (simp; omega) | omega)) | (with_reducible (refine Since.trans ?_ (by with_reducible assumption))))); done)))) ((go_at_call 84; (with_reducible refine (HC.out _).mono ?_); rintro e w1 ⟨rfl, hS1⟩; have hZ1 := hS1.below.size; (try simp at hZ1))); all_goals (rename_i hHeld; have hR1 : Since wr1 _ := hHeld; obtain ⟨hcR1, hfR1, hzR1, hbR1⟩ := hHeld; subst hwr1))
    have g4 := (hR1.1 b 4 (by simp; omega)).trans ((World.cell?_alloc_lt w _ ⟨b, 4, none⟩ cb).trans c4)
    have g5 := (hR1.1 b 5 (by simp; omega)).trans ((World.cell?_alloc_lt w _ ⟨b, 5, none⟩ cb).trans c5)
    have hRw := (HR.out.alloc (.cells #[.int .i64 n, .int .i64 d] 91)).since hR1
    have hSw := (HS.out.alloc (.cells #[.int .i64 n, .int .i64 d] 91)).trans hR1
    have hKw := ((KeepBut.refl b w).since ((Since.refl w).alloc (.cells #[.int .i64 n, .int .i64 d] 91))).since hR1
    have HRw := Lib.hid hRw; have HSw := Lib.hid hSw; have HKw := Lib.hid hKw
    clear hRw hSw hKw
    all_goals (go_wp2_with fail)
    all_goals refine bodyPost_end (results_none rfl _ _ _) rfl ?_
    all_goals first
      | (rw [show (s.ho || o) = true by simp_all]; exact ⟨⟨_, rfl⟩, st_ho HRw.out true, HSw.out.setCell hb _, HKw.out.set _ _⟩)
      | (rw [show (s.ho || o) = o by simp_all]; exact ⟨⟨_, rfl⟩, st_ho HRw.out o, HSw.out.setCell hb _, HKw.out.set _ _⟩)
  · rw [e] at hC ha
    simp at ha
    rw [ha]
    have HC := Lib.hid hC
    have HR := Lib.hid hR
    have HS := Lib.hid hS
    clear hC ha e hR hS hR0
    go_enter Try.func83, Try.ntmps83
    go_upto_region 1 with fail
    (refine wp_named fun wr1 hwr1 => ?_; go_region_held3 (fun w' => (∀ b o, b < wr1.heap.size → w'.cell? ⟨b, o, none⟩ = wr1.cell? ⟨b, o, none⟩) ∧ (∀ b o, b < wr1.heap.size → w'.frozen? ⟨b, o, none⟩ = wr1.frozen? ⟨b, o, none⟩) ∧ (∀ k, k < wr1.heap.size → k < w'.heap.size) ∧ Below wr1.heap.size wr1 w') ((subst hwr1; (repeat (with_reducible (refine since_put ?_ ?_ _); rotate_left; focus (first | (simp; done) | (simp; omega) | omega))); first | with_reducible assumption | (refine since_step (by with_reducible assumption) ?_; first | with_reducible assumption | ((repeat (first | with_reducible (exact Since.refl _) | with_reducible assumption | with_reducible (refine Since.drew ?_) | with_reducible (refine Since.drewN ?_ _) | with_reducible (refine Since.alloc ?_ _) | (with_reducible (refine Since.setCell ?_ ?_ _); rotate_left; focus (first | (simp; done) | (simp; omega) | omega)))); done)) | (refine since_step (Since.refl _) ?_; first | with_reducible assumption | ((repeat (first | with_reducible (exact Since.refl _) | with_reducible assumption | with_reducible (refine Since.drew ?_) | with_reducible (refine Since.drewN ?_ _) | with_reducible (refine Since.alloc ?_ _) | (with_reducible (refine Since.setCell ?_ ?_ _); rotate_left; focus (first | (simp; done) | (simp; omega) | omega)) | (with_reducible (refine Since.trans ?_ (by with_reducible assumption))))); done)))) ((go_at_call 84; (with_reducible refine (HC.out _).mono ?_); rintro e w1 ⟨rfl, hS1⟩; have hZ1 := hS1.below.size; (try simp at hZ1))); all_goals (rename_i hHeld; have hR1 : Since wr1 _ := hHeld; obtain ⟨hcR1, hfR1, hzR1, hbR1⟩ := hHeld; subst hwr1))
    have g4 := (hR1.1 b 4 (by simp; omega)).trans ((World.cell?_alloc_lt w _ ⟨b, 4, none⟩ cb).trans c4)
    have g5 := (hR1.1 b 5 (by simp; omega)).trans ((World.cell?_alloc_lt w _ ⟨b, 5, none⟩ cb).trans c5)
    have hRw := (HR.out.alloc (.cells #[.int .i64 n, .int .i64 d] 91)).since hR1
    have hSw := (HS.out.alloc (.cells #[.int .i64 n, .int .i64 d] 91)).trans hR1
    have hKw := ((KeepBut.refl b w).since ((Since.refl w).alloc (.cells #[.int .i64 n, .int .i64 d] 91))).since hR1
    have HRw := Lib.hid hRw; have HSw := Lib.hid hSw; have HKw := Lib.hid hKw
    clear hRw hSw hKw
    all_goals (go_wp2_with fail)
    refine bodyPost_end (results_none rfl _ _ _) rfl ?_
    exact ⟨⟨_, rfl⟩, HRw.out, HSw.out, HKw.out⟩
end Go.Proofs.Ytckochcocflleaa

/-
  Layer 16: 'cut', 'empty', 'Hits', walked.
-/
namespace Go.Proofs.Ytckochcocflleaa
open Go.RowKit
set_option linter.unusedVariables false

def Stc.ok (s : Stc) : Prop := (-8400000 ≤ s.ln ∧ s.ln ≤ 8400000) ∧ (1 ≤ s.ld ∧ s.ld ≤ 8400000) ∧ (-8400000 ≤ s.hn ∧ s.hn ≤ 8400000) ∧ (1 ≤ s.hd ∧ s.hd ≤ 8400000)
def FrOk (n d : Int) : Prop := (-8400000 ≤ n ∧ n ≤ 8400000) ∧ (1 ≤ d ∧ d ≤ 8400000)
theorem fr_mul {n d : Int} (hn : -8400000 ≤ n ∧ n ≤ 8400000) (hd : 1 ≤ d ∧ d ≤ 8400000) : In64 (n * d) := by
  have h1 : n * d ≤ 8400000 * d := Int.mul_le_mul_of_nonneg_right hn.2 (by omega)
  have h2 : -8400000 * d ≤ n * d := Int.mul_le_mul_of_nonneg_right hn.1 (by omega)
  unfold In64
  omega
theorem aft_ok {s : Stc} (h : s.ok) {n d : Int} {o : Bool} (k : FrOk n d) : (aftS s n d o).ok := by
  unfold aftS Stc.ok FrOk at *
  split
  · exact ⟨k.1, k.2, h.2.2⟩
  · split <;> exact h
theorem bef_ok {s : Stc} (h : s.ok) {n d : Int} {o : Bool} (k : FrOk n d) : (befS s n d o).ok := by
  unfold befS Stc.ok FrOk at *
  split
  · exact ⟨h.1, h.2.1, k.1, k.2⟩
  · split <;> exact h
theorem cut_ok {s : Stc} (h : s.ok) {a b row : Int} (ha : -4194304 ≤ a ∧ a ≤ 4194304) (hb : -4194304 ≤ b ∧ b ≤ 4194304) (hr : -65536 ≤ row ∧ row ≤ 65536) : (cutS s a b row).ok := by
  unfold cutS
  split
  · exact bef_ok (aft_ok h (by unfold FrOk; omega)) (by unfold FrOk; omega)
  · split
    · exact bef_ok (aft_ok h (by unfold FrOk; omega)) (by unfold FrOk; omega)
    · split
      · unfold Stc.ok at *; simp only; omega
      · exact h
set_option maxRecDepth 100000 in
set_option maxHeartbeats 8000000 in
theorem px_cut (w0 : World) (b : Nat) (s : Stc) (a c row : Int) (hs : s.ok) (ha : -4194304 ≤ a ∧ a ≤ 4194304) (hc : -4194304 ≤ c ∧ c ≤ 4194304) (hr : -65536 ≤ row ∧ row ≤ 65536) (w : World) (hb : w0.heap.size ≤ b) (hS : Since w0 w) (hR : Row w b 6 (Stf s)) :
    Calls Try.prog 60 #[.pointer (some ⟨b, 0, none⟩), .int .i64 a, .int .i64 c, .int .i64 row] w (StPost w0 w b (cutS s a c row)) := by
  have u1 : IntKind.i64.wrap (64 * row) = 64 * row := IntWalk.i64_in _ (by omega)
  have u2 : IntKind.i64.wrap (64 * row - 32) = 64 * row - 32 := IntWalk.i64_in _ (by omega)
  have u3 : IntKind.i64.wrap (64 * row + 32) = 64 * row + 32 := IntWalk.i64_in _ (by omega)
  by_cases h1 : a < c
  · have e : cutS s a c row = befS (aftS s (64 * row - 32 - a) (c - a) false) (64 * row + 32 - a) (c - a) true := by unfold cutS; rw [if_pos h1]
    rw [e]
    have k1 : FrOk (64 * row - 32 - a) (c - a) := by unfold FrOk; omega
    have k2 : FrOk (64 * row + 32 - a) (c - a) := by unfold FrOk; omega
    have u4 : IntKind.i64.wrap (64 * row - 32 - a) = 64 * row - 32 - a := IntWalk.i64_in _ (by omega)
    have u5 : IntKind.i64.wrap (64 * row + 32 - a) = 64 * row + 32 - a := IntWalk.i64_in _ (by omega)
    have u6 : IntKind.i64.wrap (c - a) = c - a := IntWalk.i64_in _ (by omega)
    have hs2 := aft_ok (o := false) hs k1
    have hA := fun w h1 h2 => px_after w0 b s (64 * row - 32 - a) (c - a) false (fr_mul k1.1 hs.2.1) (fr_mul hs.1 k1.2) w hb h1 h2
    have hB := fun w h1 h2 => px_before w0 b (aftS s (64 * row - 32 - a) (c - a) false) (64 * row + 32 - a) (c - a) true (fr_mul k2.1 hs2.2.2.2) (fr_mul hs2.2.2.1 k2.2) w hb h1 h2
    generalize befS (aftS s (64 * row - 32 - a) (c - a) false) (64 * row + 32 - a) (c - a) true = S2 at *
    generalize aftS s (64 * row - 32 - a) (c - a) false = S1 at *
    have d1 : decide (a < c) = true := by simp [h1]
    unfold StPost at *
    have HA := Lib.hid hA; have HB := Lib.hid hB; have HS := Lib.hid hS; have HR := Lib.hid hR
    clear hA hB k1 k2 hs hs2 e hS hR h1 ha hc hr
    go_enter Try.func60, Try.ntmps60
    go_wp2_with (first | (go_at_call 82; (with_reducible refine (HA.out _ HS.out HR.out).mono ?_); rintro e w1 ⟨⟨v1, rfl⟩, hR1, hS1, hK1⟩) | (go_at_call 83; (with_reducible refine (HB.out _ hS1 hR1).mono ?_); rintro e w2 ⟨⟨v2, rfl⟩, hR2, hS2, hK2⟩))
    refine bodyPost_end (results_none rfl _ _ _) rfl ?_
    exact ⟨⟨_, rfl⟩, hR2, hS2, hK1.trans hK2⟩
  · by_cases h2 : c < a
    · have e : cutS s a c row = befS (aftS s (a - (64 * row + 32)) (a - c) true) (a - (64 * row - 32)) (a - c) false := by unfold cutS; rw [if_neg h1, if_pos h2]
      rw [e]
      have k1 : FrOk (a - (64 * row + 32)) (a - c) := by unfold FrOk; omega
      have k2 : FrOk (a - (64 * row - 32)) (a - c) := by unfold FrOk; omega
      have u4 : IntKind.i64.wrap (a - (64 * row + 32)) = a - (64 * row + 32) := IntWalk.i64_in _ (by omega)
      have u5 : IntKind.i64.wrap (a - (64 * row - 32)) = a - (64 * row - 32) := IntWalk.i64_in _ (by omega)
      have u6 : IntKind.i64.wrap (a - c) = a - c := IntWalk.i64_in _ (by omega)
      have hs2 := aft_ok (o := true) hs k1
      have hA := fun w h1 h2 => px_after w0 b s (a - (64 * row + 32)) (a - c) true (fr_mul k1.1 hs.2.1) (fr_mul hs.1 k1.2) w hb h1 h2
      have hB := fun w h1 h2 => px_before w0 b (aftS s (a - (64 * row + 32)) (a - c) true) (a - (64 * row - 32)) (a - c) false (fr_mul k2.1 hs2.2.2.2) (fr_mul hs2.2.2.1 k2.2) w hb h1 h2
      generalize befS (aftS s (a - (64 * row + 32)) (a - c) true) (a - (64 * row - 32)) (a - c) false = S2 at *
      generalize aftS s (a - (64 * row + 32)) (a - c) true = S1 at *
      have d1 : decide (a < c) = false := by simp; omega
      have d2 : decide (c < a) = true := by simp [h2]
      unfold StPost at *
      have HA := Lib.hid hA; have HB := Lib.hid hB; have HS := Lib.hid hS; have HR := Lib.hid hR
      clear hA hB k1 k2 hs hs2 e hS hR h1 h2 ha hc hr
      go_enter Try.func60, Try.ntmps60
      go_wp2_with (first | (go_at_call 82; (with_reducible refine (HA.out _ HS.out HR.out).mono ?_); rintro e w1 ⟨⟨v1, rfl⟩, hR1, hS1, hK1⟩) | (go_at_call 83; (with_reducible refine (HB.out _ hS1 hR1).mono ?_); rintro e w2 ⟨⟨v2, rfl⟩, hR2, hS2, hK2⟩))
      refine bodyPost_end (results_none rfl _ _ _) rfl ?_
      exact ⟨⟨_, rfl⟩, hR2, hS2, hK1.trans hK2⟩
    · have hac : a = c := by omega
      subst hac
      have d1 : decide (a < a) = false := by simp
      by_cases h3 : a < 64 * row - 32
      · have e : cutS s a a row = ⟨s.ln, s.ld, -1, 1, s.lo, s.ho⟩ := by unfold cutS; rw [if_neg h1, if_neg h2, if_pos (by omega)]
        rw [e]
        have d3 : decide (a < 64 * row - 32) = true := by simp [h3]
        obtain ⟨c0, c1, c2, c3, c4, c5, c6⟩ := stcells hR
        have hfr := hR.2.1
        have HS := Lib.hid hS; have HR := Lib.hid hR
        clear hS hR h1 h2 ha hc hr h3 e hs
        go_enter Try.func60, Try.ntmps60
        go_wp2_with fail
        refine bodyPost_end (results_none rfl _ _ _) rfl ?_
        exact ⟨⟨_, rfl⟩, st_none HR.out, (HS.out.setCell hb _).setCell hb _, ((KeepBut.refl b w).set _ _).set _ _⟩
      · by_cases h4 : 64 * row + 32 ≤ a
        · have e : cutS s a a row = ⟨s.ln, s.ld, -1, 1, s.lo, s.ho⟩ := by unfold cutS; rw [if_neg h1, if_neg h2, if_pos (by omega)]
          rw [e]
          have d3 : decide (a < 64 * row - 32) = false := by simp; omega
          have d4 : decide (64 * row + 32 ≤ a) = true := by simp [h4]
          obtain ⟨c0, c1, c2, c3, c4, c5, c6⟩ := stcells hR
          have hfr := hR.2.1
          have HS := Lib.hid hS; have HR := Lib.hid hR
          clear hS hR h1 h2 ha hc hr h3 h4 e hs
          go_enter Try.func60, Try.ntmps60
          go_wp2_with fail
          refine bodyPost_end (results_none rfl _ _ _) rfl ?_
          exact ⟨⟨_, rfl⟩, st_none HR.out, (HS.out.setCell hb _).setCell hb _, ((KeepBut.refl b w).set _ _).set _ _⟩
        · have e : cutS s a a row = s := by unfold cutS; rw [if_neg h1, if_neg h2, if_neg (by omega)]
          rw [e]
          have d3 : decide (a < 64 * row - 32) = false := by simp; omega
          have d4 : decide (64 * row + 32 ≤ a) = false := by simp; omega
          have HS := Lib.hid hS; have HR := Lib.hid hR
          clear hS hR h1 h2 ha hc hr h3 h4 e hs
          go_enter Try.func60, Try.ntmps60
          go_wp2_with fail
          refine bodyPost_end (results_none rfl _ _ _) rfl ?_
          exact ⟨⟨_, rfl⟩, HR.out, HS.out, KeepBut.refl b w⟩
set_option maxRecDepth 100000 in
set_option maxHeartbeats 8000000 in
theorem px_empty (b : Nat) (s : Stc) (hs : s.ok) (w : World) (hR : Row w b 6 (Stf s)) :
    Calls Try.prog 61 #[.pointer (some ⟨b, 0, none⟩)] w fun e w' => e = .returned (.bool (empS s)) ∧ Since w w' := by
  have hC := fun w => px_compare s.ln s.ld s.hn s.hd (fr_mul hs.1 hs.2.2.2) (fr_mul hs.2.2.1 hs.2.1) w
  have he : empS s = (decide (0 < cmpF s.ln s.ld s.hn s.hd) || (decide (cmpF s.ln s.ld s.hn s.hd = 0) && (s.lo || s.ho))) := rfl
  have hcs := cmp_is (s.ln * s.hd) (s.hn * s.ld)
  change (cmpF s.ln s.ld s.hn s.hd = -1 ∧ _) ∨ (cmpF s.ln s.ld s.hn s.hd = 0 ∧ _) ∨ (cmpF s.ln s.ld s.hn s.hd = 1 ∧ _) at hcs
  obtain ⟨c0, c1, c2, c3, c4, c5, cb⟩ := stcells hR
  obtain ⟨ln, ld, hn', hd', lo, ho⟩ := s
  simp only at *
  have HR := Lib.hid hR
  clear hR hs
  rcases hcs with ⟨e, _⟩ | ⟨e, _⟩ | ⟨e, _⟩ <;> cases lo
  all_goals
    rw [e] at hC he
    rw [he]
    have HC := Lib.hid hC
    clear hC he e
    go_enter Try.func61, Try.ntmps61
    go_upto_region 1 with fail
    (refine wp_named fun wr1 hwr1 => ?_; go_region_held3 (fun w' => (∀ b o, b < wr1.heap.size → w'.cell? ⟨b, o, none⟩ = wr1.cell? ⟨b, o, none⟩) ∧ (∀ b o, b < wr1.heap.size → w'.frozen? ⟨b, o, none⟩ = wr1.frozen? ⟨b, o, none⟩) ∧ (∀ k, k < wr1.heap.size → k < w'.heap.size) ∧ Below wr1.heap.size wr1 w') ((subst hwr1; (repeat (with_reducible (refine since_put ?_ ?_ _); rotate_left; focus (first | (simp; done) | (simp; omega) | omega))); first | with_reducible assumption | (refine since_step (by with_reducible assumption) ?_; first | with_reducible assumption | ((repeat (first | with_reducible (exact Since.refl _) | with_reducible assumption | with_reducible (refine Since.drew ?_) | with_reducible (refine Since.drewN ?_ _) | with_reducible (refine Since.alloc ?_ _) | (with_reducible (refine Since.setCell ?_ ?_ _); rotate_left; focus (first | (simp; done) | (simp; omega) | omega)))); done)) | (refine since_step (Since.refl _) ?_; first | with_reducible assumption | ((repeat (first | with_reducible (exact Since.refl _) | with_reducible assumption | with_reducible (refine Since.drew ?_) | with_reducible (refine Since.drewN ?_ _) | with_reducible (refine Since.alloc ?_ _) | (with_reducible (refine Since.setCell ?_ ?_ _); rotate_left; focus (first | (simp; done) | (simp; omega) | omega)) | (with_reducible (refine Since.trans ?_ (by with_reducible assumption))))); done)))) ((go_at_call 84; (with_reducible refine (HC.out _).mono ?_); rintro e w1 ⟨rfl, hS1⟩; have hZ1 := hS1.below.size; (try simp at hZ1))); all_goals (rename_i hHeld; have hR1 : Since wr1 _ := hHeld; obtain ⟨hcR1, hfR1, hzR1, hbR1⟩ := hHeld; subst hwr1))
    have g0 := (hR1.1 b 0 cb).trans c0
    have g4 := (hR1.1 b 4 cb).trans c4
    have g5 := (hR1.1 b 5 cb).trans c5
    have g6 := hR1.2.2.1 b cb
    go_wp2_with fail
    go_ret
    exact ⟨by first | rfl | simp, by (repeat (first | with_reducible (exact Since.refl _) | with_reducible assumption | with_reducible (refine Since.drew ?_) | with_reducible (refine Since.drewN ?_ _) | with_reducible (refine Since.alloc ?_ _) | (with_reducible (refine Since.setCell ?_ ?_ _); rotate_left; focus (first | (simp; done) | (simp; omega) | omega)) | (with_reducible (refine Since.trans ?_ (by with_reducible assumption)))))⟩
end Go.Proofs.Ytckochcocflleaa
