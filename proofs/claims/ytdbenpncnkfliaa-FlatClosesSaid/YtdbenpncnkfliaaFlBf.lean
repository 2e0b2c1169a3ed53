/-
  Texts of this seat, put together: each with its own head.
-/
import Derived.Test.YtdbenpncnkfliaaFlBe
import Derived.DeepKeys4
import Derived.Maps.OwnSet
import Derived.Maps.RangeWalk
import Derived.Maps.OwnOps
import Derived.WideKeyEntry

/-
  Layer 14: 'way': a contour's lines.
-/
namespace Go.Proofs.Ytdbenpncnkfliaa
open Go.RowKit Go.ChangeShapes Go.WideShapes Go.Deep
set_option linter.unusedVariables false

theorem OwnS.keepT {w w' : World} {base : Nat} {v : Value} {L : List Sg} (h : OwnS w base v L) (hk : ∀ (b : Nat) (cs : Array Value), w.heap[b]? = some (Obj.cells cs 37 (0, 0)) → w'.heap[b]? = some (Obj.cells cs 37 (0, 0))) : OwnS w' base v L := by
  refine ⟨h.1, ?_⟩
  rcases h.2 with h0 | ⟨g, cap, cur, e1, hb, hh, r⟩
  · exact .inl h0
  · exact .inr ⟨g, cap, cur, e1, hb, hk _ _ hh, r⟩
theorem wayL_stop (m : Int) (S : List Sg) (L : List Lq) (h : m ≤ (L.length : Int)) : wayL m S L = L := by
  cases S with
  | nil => rfl
  | cons s r => simp only [wayL]; rw [if_pos h]
theorem wayL_step (m : Int) (S : List Sg) (j : Nat) (s : Sg) (L : List Lq) (hj : S[j]? = some s) (h : ¬ m ≤ (L.length : Int)) : wayL m (S.drop (j + 1)) (segW s L) = wayL m (S.drop j) L := by
  have hlt : j < S.length := by
    rcases Nat.lt_or_ge j S.length with k | k
    · exact k
    · rw [List.getElem?_eq_none k] at hj; cases hj
  have e : S.drop j = s :: S.drop (j + 1) := by
    rw [List.drop_eq_getElem_cons hlt]
    congr
    rw [List.getElem?_eq_getElem hlt] at hj
    simpa using hj
  rw [e]
  simp only [wayL]
  rw [if_neg h]
set_option maxRecDepth 100000 in
set_option maxHeartbeats 8000000 in
theorem fa_way (A : Option Addr) (n c : Nat) (m : Int) (S : List Sg) (w : World) (hm : m ≤ 4097) (hsg : ∀ w1, Since w w1 → Calls Try.prog 15 #[.slice A n c] w1 (SegsOut w1 S)) (hin : ∀ s ∈ S, inR s = true ∧ s.wf) (hSl : S.length ≤ 1000000) :
    Calls Try.prog 58 #[.slice A n c, .int .i64 m] w fun e w' => ∃ v, e = .returned v ∧ OwnG 67 4 lnL w' w.heap.size v (wayL m S []) ∧ Since w w' := by
  have hs0 := hsg (w.alloc (.cells #[.slice none 0 0] 57)) ((Since.refl w).alloc _)
  have HSG := Lib.hid hs0
  have HIN := Lib.hid hin
  clear hsg hs0 hin
  go_enter Try.func58, Try.ntmps58
  go_wp2_with (go_at_call 15; (with_reducible refine HSG.out.mono ?_); rintro e w3 ⟨v3, base3, rfl, hb3, hO3, hS3⟩; obtain ⟨A3, c3, rfl, hc3, hr3, _⟩ := hO3.rd)
  have hS1 : Since w w3 := ((Since.refl w).alloc _).trans hS3
  have hbl : w3.heap[w.heap.size]? = some (Obj.cells #[.slice none 0 0] 57 (0, 0)) := (hS3.below.block _ (by simp)).trans (heap_alloc_new w _)
  obtain ⟨q, hq⟩ : ∃ q, q = w.heap.size := ⟨_, rfl⟩
  rw [← hq] at hbl ⊢
  have HQ := Lib.hid (Nat.le_of_eq hq.symm)
  have HO3 := Lib.hid hO3
  clear hq hS3 hb3 hr3 hO3 HSG
  go_loopw [12] (fun y wr => ∃ (j : Nat) (L : List Lq) (v : Value), j ≤ S.length ∧ y = .int .i64 (j : Int) ∧ L.length ≤ 5000 ∧ wayL m (S.drop j) L = wayL m S [] ∧ wr.heap[q]? = some (Obj.cells #[v] 57 (0, 0)) ∧ OwnG 67 4 lnL wr (q + 1) v L ∧ Since w wr ∧ ∀ (b : Nat) (cs : Array Value), w3.heap[b]? = some (Obj.cells cs 37 (0, 0)) → wr.heap[b]? = some (Obj.cells cs 37 (0, 0))) (fun y _ => S.length - (intOf y).toNat)
  case atStart => exact ⟨0, [], _, by omega, rfl, by simp, by simp, hbl, OwnG.nil _ _ _ _ _, hS1, fun b cs h => h⟩
  case round =>
    obtain ⟨j, L, v, hj, rfl, hL5, hWL, hql, hO, hSr, hK⟩ := hrel
    obtain ⟨A4, c4, rfl, hc4, hr4⟩ := hO.rd (by omega) lnL_len
    have cq : wr.cell? ⟨q, 0, none⟩ = some (.slice A4 L.length c4) := by simp [World.cell?, hql]
    have hqz := lt_of_heap hql
    have HWL := Lib.hid hWL
    have HO := Lib.hid hO
    have HSR := Lib.hid hSr
    have HK := Lib.hid hK
    have HQL := Lib.hid hql
    clear hr4 hWL hSr hK hql hO hbl hS1
    by_cases hjn : j < S.length
    · have hjn' : (j : Int) < (S.length : Int) := by omega
      obtain ⟨s, hs⟩ : ∃ s, S[j]? = some s := ⟨_, List.getElem?_eq_getElem hjn⟩
      obtain ⟨hsi, hsw⟩ := HIN.out s (List.mem_of_getElem? hs)
      obtain ⟨A5, c5, e5, hc5, hr5, _⟩ := (HO3.out.keepT HK.out).rd
      obtain ⟨rfl, e6, rfl⟩ : A3 = A5 ∧ S.length = S.length ∧ c3 = c5 := by simpa using e5
      clear e5 e6
      obtain ⟨b, o, rfl, hb, hcell⟩ := hr5 (by omega)
      obtain ⟨s0, s1, s2, s3, s4, s5, s6⟩ := hcell j s hs
      have HST := fun h => Lib.hid (wayL_step m S j s L hs h)
      have HSP := fun h => Lib.hid (wayL_stop m (S.drop j) L h)
      have hw := fa_walkL s hsw hsi w w3 q (wr.heap.size + 1) L (by omega)
      have hsl := segW_len s L
      generalize segW s L = L2 at *
      have HWK := Lib.hid hw
      have u1 : IntKind.i64.wrap ((j : Int) + 1) = (j : Int) + 1 := IntWalk.i64_in _ (by omega)
      clear hw hcell hsi hsw hs hr5
      unfold Sg.v at HWK
      by_cases hm2 : m ≤ (L.length : Int)
      · go_wp2_with fail
        go_ret
        have e := (HSP hm2).out
        rw [HWL.out] at e
        refine ⟨_, rfl, ?_, HSR.out.alloc _⟩
        rw [e]
        exact OwnG.lower' (HO.out.alloc _) (by have := HQ.out; omega)
      · have hwz : w.heap.size ≤ wr.heap.size := HSR.out.below.size
        have h0 : ∀ o1, CapL w w3 ((wr.alloc o1).alloc (.cells #[.int .i64 s.ax, .int .i64 s.ay] 33)) q (wr.heap.size + 1) L ⟨s.ax, s.ay⟩ := fun o1 =>
          have hS2 : Since wr ((wr.alloc o1).alloc (.cells #[.int .i64 s.ax, .int .i64 s.ay] 33)) := ((Since.refl wr).alloc _).alloc _
          ⟨_, (hS2.below.block q hqz).trans HQL.out, by have h := heap_alloc_new (wr.alloc o1) (.cells #[.int .i64 s.ax, .int .i64 s.ay] 33); simpa using h, HO.out.since hS2, HSR.out.trans hS2, HQ.out, by omega,
            fun b cs hb => (hS2.below.block b (lt_of_heap (HK.out b cs hb))).trans (HK.out b cs hb)⟩
        have H0 := Lib.hid h0
        have HT := HST hm2
        clear h0 HST HSP
        go_wp2_with (refine (HWK.out _ (H0.out _)).mono ?_; rintro e w5 ⟨rfl, hp, v5, z1, z2, z3, z4, z5, z6, z7⟩)
        go_roundw
        case rel => exact ⟨j + 1, L2, v5, by omega, by go_num, by omega, by rw [HT.out, HWL.out], z1, z3, z4, z7⟩
        case measure => simp [intOf]; omega
    · obtain rfl : j = S.length := by omega
      go_wp2_with fail
      go_ret
      refine ⟨_, rfl, ?_, HSR.out⟩
      have e := HWL.out
      rw [List.drop_length] at e
      rw [← e]
      exact OwnG.lower' HO.out (by have := HQ.out; omega)
end Go.Proofs.Ytdbenpncnkfliaa

/-
  Layer 14: the reference's 'Closed'.
-/
namespace Go.Proofs.Ytdbenpncnkfliaa
open Go.RowKit Go.ChangeShapes Go.WideShapes Go.Deep
set_option linter.unusedVariables false

/-- How many of the first k lines begin at a point, less those that end there. -/
def cntJ (L : List Lq) (p : Pq) : Nat → Int
  | 0 => 0
  | k + 1 => match L[k]? with
    | some y => cntJ L p k + (if y.ax = p.x ∧ y.ay = p.y then 1 else 0) - (if y.bx = p.x ∧ y.bz = p.y then 1 else 0)
    | none => cntJ L p k
theorem cntJ_in (L : List Lq) (p : Pq) : ∀ k : Nat, -(k : Int) ≤ cntJ L p k ∧ cntJ L p k ≤ k
  | 0 => by simp [cntJ]
  | k + 1 => by
    have ih := cntJ_in L p k
    simp only [cntJ]
    split
    · split <;> split <;> omega
    · omega
theorem cntJ_step (L : List Lq) (p : Pq) (k : Nat) (y : Lq) (h : L[k]? = some y) : cntJ L p (k + 1) = cntJ L p k + (if y.ax = p.x ∧ y.ay = p.y then 1 else 0) - (if y.bx = p.x ∧ y.bz = p.y then 1 else 0) := by simp only [cntJ, h]
def cntL (L : List Lq) (p : Pq) : Int := cntJ L p L.length
def chkL (L : List Lq) (x : Lq) : Bool := cntL L ⟨x.ax, x.ay⟩ == 0 && cntL L ⟨x.bx, x.bz⟩ == 0
def closedB (L : List Lq) : Bool := L.all (chkL L)
theorem closed_all (L : List Lq) (h : ∀ (j : Nat) (x : Lq), L[j]? = some x → chkL L x = true) : closedB L = true := by
  unfold closedB
  rw [List.all_eq_true]
  intro x hx
  obtain ⟨j, hj, rfl⟩ := List.getElem_of_mem hx
  exact h j _ (List.getElem?_eq_getElem hj)
theorem closed_not (L : List Lq) (j : Nat) (x : Lq) (hj : L[j]? = some x) (h : chkL L x = false) : closedB L = false := by
  unfold closedB
  rw [List.all_eq_false]
  exact ⟨x, List.mem_of_getElem? hj, by simp [h]⟩
/-- One count: the inner loop's round. -/
theorem cnt_cases (a b p q : Int) : (a = p ∧ b = q) ∨ (¬ (a = p ∧ b = q) ∧ a = p ∧ (b == q) = false ∧ b ≠ q) ∨ (¬ (a = p ∧ b = q) ∧ (a == p) = false ∧ a ≠ p) := by
  by_cases e1 : a = p <;> by_cases e2 : b = q <;> simp_all
end Go.Proofs.Ytdbenpncnkfliaa

/-
  Points as keys of a map.
-/
namespace Go.Proofs.Ytdbenpncnkfliaa
open Go.RowKit Go.Maps
set_option linter.unusedVariables false

theorem laidOut0 : laidOutB Try.prog = true := by kernel_rfl
theorem rowPt : (33 : TypeId) < Try.prog.types.size := of_decide_eq_true (by kernel_rfl)
theorem widePt : (match Try.prog.underlying 33 with | some (.array _ _) | some (.struct _) => true | _ => false) = true := by kernel_rfl
set_option maxRecDepth 100000 in
theorem lawPt : Keyed Try.prog 33 := Keyed.of_law (deep_law_laid laidOut0 (m := 2) (by omega) rowPt (by kernel_rfl) widePt)
theorem keyPt : Try.prog.keyType 33 = true := by kernel_rfl
theorem cellsPt : Try.prog.cellsOf 33 = 2 := by kernel_rfl
theorem cellsIn : Try.prog.cellsOf 3 = 1 := by kernel_rfl
theorem sizeTy : ∃ n, Try.prog.types.size = n + 1 := Nat.exists_eq_succ_of_ne_zero (fun h => by have := rowPt; rw [h] at this; exact absurd this (Nat.not_lt_zero _))
/-- A point as a key. -/
def kP (x y : Int) : Lit := .string (keyBytes [.int .i64 x, .int .i64 y])
theorem lits_int {d : Nat} {n : Int} (h : (Lit.int .i64 n).wf = true) : Try.prog.keyLits (d + 1) 3 [.int .i64 n] = some [.int .i64 n] := by
  simp [Program.keyLits, Try.underlying3, h]
theorem keyOf_pt {x y : Int} (hx : (Lit.int .i64 x).wf = true) (hy : (Lit.int .i64 y).wf = true) : keyOf Try.prog 33 (Pt x y) = some (kP x y) := by
  obtain ⟨n, hn⟩ := sizeTy
  have hu := Try.underlying33
  unfold keyOf
  rw [hu]
  have hf : (Pt x y).formed Try.prog 33 = true := by
    unfold Pt
    simp [Value.formed, hu, cellsPt]
  have hl : Try.prog.keyLits (Try.prog.types.size + 1) 33 (Pt x y).cells.toList = some [.int .i64 x, .int .i64 y] := by
    rw [hn]
    unfold Pt
    simp only [Program.keyLits, hu, Value.cells, cellsPt]
    simp [cellsIn, Try.underlying3, hx, hy]
  simp only [keyPt, hf, hl]
  rfl
theorem wf_of64 {x : Int} (h : In64 x) : (Lit.int .i64 x).wf = true := WalkArith.wf_i64 (by unfold In64 at h; omega)
theorem kP_key {x y : Int} (hx : (Lit.int .i64 x).wf = true) (hy : (Lit.int .i64 y).wf = true) : WideAt.IsKeyLit (kP x y) := lawPt.key (keyOf_pt hx hy)
theorem kP_inj {x y u v : Int} (hx : (Lit.int .i64 x).wf = true) (hy : (Lit.int .i64 y).wf = true) (hu : (Lit.int .i64 u).wf = true) (hv : (Lit.int .i64 v).wf = true) (h : kP x y = kP u v) : x = u ∧ y = v := by
  have e := lawPt.inj (keyOf_pt hx hy) (h ▸ keyOf_pt hu hv)
  unfold Pt at e
  simpa using e
set_option maxRecDepth 100000 in
theorem keyOf_pt_inv {v : Value} {kl : Lit} (h : keyOf Try.prog 33 v = some kl) : ∃ x y : Int, v = Pt x y ∧ kl = kP x y ∧ (Lit.int .i64 x).wf = true ∧ (Lit.int .i64 y).wf = true := by
  obtain ⟨n, hn⟩ := sizeTy
  have hu := Try.underlying33
  have h0 := h
  unfold keyOf at h
  rw [hu] at h
  simp only [keyPt, Bool.true_and] at h
  split at h
  · rename_i hf
    cases v <;> simp [Value.formed, hu] at hf
    rename_i cs
    rw [cellsPt] at hf
    obtain ⟨l⟩ := cs
    match l, hf with
    | [c0, c1], _ =>
      rw [hn] at h
      simp only [Program.keyLits, hu, Value.cells, cellsPt] at h
      cases c0 <;> first | (simp [cellsIn, Try.underlying3] at h; done) | skip
      cases c1 <;> first | (simp [cellsIn, Try.underlying3] at h; done) | skip
      rename_i q x r y hy
      simp [cellsIn, Try.underlying3] at h
      by_cases c : q = .i64 ∧ (Lit.int .i64 x).wf = true
      · by_cases c' : r = .i64 ∧ (Lit.int .i64 y).wf = true
        · obtain ⟨rfl, wx⟩ := c
          obtain ⟨rfl, wy⟩ := c'
          have hk := keyOf_pt wx wy
          exact ⟨x, y, rfl, Option.some.inj (h0.symm.trans hk), wx, wy⟩
        · rw [if_pos c, if_neg c'] at h; simp at h
      · rw [if_neg c] at h; simp at h
  · cases h
/-- The keys of a list of points. -/
def kL (L : List (Int × Int)) : List Lit := L.map fun e => kP e.1 e.2
def WfL (L : List (Int × Int)) : Prop := ∀ e ∈ L, (Lit.int .i64 e.1).wf = true ∧ (Lit.int .i64 e.2).wf = true
theorem kL_key {L : List (Int × Int)} (h : WfL L) : ∀ x ∈ kL L, WideAt.IsKeyLit x := by
  intro x hx
  obtain ⟨e, he, rfl⟩ := List.mem_map.1 hx
  exact kP_key (h e he).1 (h e he).2
theorem mem_addKey {L : List Lit} {x y : Lit} (h : x ∈ L ∨ x = y) : x ∈ addKey L y := by
  unfold addKey
  split
  · rename_i ha
    rcases h with h | rfl
    · exact h
    · obtain ⟨z, hz, hs⟩ := List.any_eq_true.1 ha
      rw [← WideAt.sameKey_eq hs]
      exact hz
  · rcases h with h | rfl
    · exact List.mem_append_left _ h
    · simp
theorem mem_addKeys : ∀ (xs L : List Lit) (x : Lit), (x ∈ L ∨ x ∈ xs) → x ∈ xs.foldl addKey L
  | [], L, x, h => by simpa using h
  | y :: r, L, x, h => by
    rw [List.foldl_cons]
    refine mem_addKeys r _ x ?_
    rcases h with h | h
    · exact .inl (mem_addKey (.inl h))
    · rcases List.mem_cons.1 h with rfl | h
      · exact .inl (mem_addKey (.inr rfl))
      · exact .inr h
theorem all_addKeys {k : Lit} (hk : WideAt.IsKeyLit k) : ∀ xs : List Lit, (∀ x ∈ xs, x = k) → xs.foldl addKey [k] = [k]
  | [], _ => rfl
  | y :: r, h => by
    rw [List.foldl_cons, h y (by simp)]
    have e : addKey [k] k = [k] := by unfold addKey; simp [WideAt.sameKey_self hk]
    rw [e]
    exact all_addKeys hk r (fun x hx => h x (by simp [hx]))
theorem two_mem {L : List Lit} {a b : Lit} (ha : a ∈ L) (hb : b ∈ L) (hne : a ≠ b) : 2 ≤ L.length := by
  match L, ha, hb with
  | [x], ha, hb => simp at ha hb; exact absurd (ha.trans hb.symm) hne
  | x :: y :: r, _, _ => simp
section
variable {u : DataW Unit} {L : List (Int × Int)}
/-- How many different points there are: none, one, more. -/
theorem size_one {e : Int × Int} (h : WfL L) (he : e ∈ L) (hall : ∀ x ∈ L, x = e) : Maps.size (setOf u (kL L)) = 1 := by
  rw [size_setOf u _ (kL_key h)]
  cases L with
  | nil => cases he
  | cons a r =>
    have ha := hall a (by simp)
    subst ha
    show ((r.map fun e => kP e.1 e.2).foldl addKey (addKey [] (kP a.1 a.2))).length = 1
    have e1 : addKey [] (kP a.1 a.2) = [kP a.1 a.2] := rfl
    rw [e1, all_addKeys (kP_key (h a (by simp)).1 (h a (by simp)).2) _ (fun x hx => by
      obtain ⟨y, hy, rfl⟩ := List.mem_map.1 hx
      rw [hall y (by simp [hy])])]
    rfl
theorem size_two {e f : Int × Int} (h : WfL L) (he : e ∈ L) (hf : f ∈ L) (hne : e ≠ f) : 2 ≤ Maps.size (setOf u (kL L)) := by
  rw [size_setOf u _ (kL_key h)]
  refine two_mem (a := kP e.1 e.2) (b := kP f.1 f.2) (mem_addKeys _ _ _ (.inr (List.mem_map.2 ⟨e, he, rfl⟩))) (mem_addKeys _ _ _ (.inr (List.mem_map.2 ⟨f, hf, rfl⟩))) (fun hh => hne ?_)
  obtain ⟨h1, h2⟩ := kP_inj (h e he).1 (h e he).2 (h f hf).1 (h f hf).2 hh
  exact Prod.ext h1 h2
theorem size_nil : Maps.size (setOf u (kL [])) = 0 := rfl
theorem has_kL {x y : Int} (h : WfL L) (hx : (Lit.int .i64 x).wf = true) (hy : (Lit.int .i64 y).wf = true) : Maps.has (setOf u (kL L)) (kP x y) = true ↔ (x, y) ∈ L := by
  rw [has_setOf u _ _ (kL_key h), List.any_eq_true]
  constructor
  · rintro ⟨z, hz, hs⟩
    obtain ⟨e, he, rfl⟩ := List.mem_map.1 hz
    obtain ⟨h1, h2⟩ := kP_inj (h e he).1 (h e he).2 hx hy (WideAt.sameKey_eq hs)
    rw [← h1, ← h2]
    exact he
  · exact fun hh => ⟨kP x y, List.mem_map.2 ⟨(x, y), hh, rfl⟩, WideAt.sameKey_self (kP_key hx hy)⟩
end
theorem Row.grown {w w' : World} {b n B : Nat} {f : Nat → Value} (h : Row w b n f) (hg : w.grownBy w' (some B)) (hb : b ≠ B) : Row w' b n f := by
  have e := hg.block b h.2.2 (by simpa using hb)
  refine ⟨fun j hj => ?_, fun j => ?_, Nat.lt_of_lt_of_le h.2.2 hg.size⟩
  · rw [← h.1 j hj]; simp only [World.cell?, e]
  · rw [← h.2.1 j]; simp only [World.frozen?, e]
end Go.Proofs.Ytdbenpncnkfliaa

/-
  Layer 14: a map of points that counts.
-/
namespace Go.Proofs.Ytdbenpncnkfliaa
open Go.RowKit Go.ChangeShapes Go.WideShapes Go.Deep Go.Maps Go.ChangeMaps
set_option linter.unusedVariables false

theorem zeroIn (w : World) : (zeroValue 3).run Try.prog w = .ok (.int .i64 0) w := by kernel_rfl
def wfP (p : Pq) : Prop := (Lit.int .i64 p.x).wf = true ∧ (Lit.int .i64 p.y).wf = true
def wfLq (l : Lq) : Prop := wfP ⟨l.ax, l.ay⟩ ∧ wfP ⟨l.bx, l.bz⟩
def kPq (p : Pq) : Lit := kP p.x p.y
theorem kPq_inj {p q : Pq} (hp : wfP p) (hq : wfP q) (h : kPq p = kPq q) : p = q := by
  obtain ⟨h1, h2⟩ := kP_inj hp.1 hp.2 hq.1 hq.2 h
  cases p; cases q; simp_all
/-- The map reads as f; what it has is among 'ok'. -/
def CntM (D : DataW Unit) (f : Pq → Int) (ok : Pq → Prop) : Prop := IsMap D ∧ (∀ p, wfP p → D.atKey (kPq p) (.lit (.int .i64 0)) = .lit (.int .i64 (f p))) ∧ ∀ p, wfP p → Maps.has D (kPq p) = true → ok p
theorem CntM.empty (ok : Pq → Prop) : CntM (.map []) (fun _ => 0) ok := ⟨isMap_empty, fun p _ => rfl, fun p _ h => by cases h⟩
open Classical in
theorem CntM.put {D : DataW Unit} {f : Pq → Int} {ok : Pq → Prop} (h : CntM D f ok) {q : Pq} (hq : wfP q) (hok : ok q) (v : Int) : CntM (D.put (kPq q) (.lit (.int .i64 v))) (fun p => if p = q then v else f p) ok := by
  refine ⟨h.1.put _ _, fun p hp => ?_, fun p hp hh => ?_⟩
  · by_cases e : p = q
    · subst e
      rw [atKey_put_same h.1 (show WideAt.IsKeyLit (kPq p) from kP_key hp.1 hp.2)]; simp
    · rw [atKey_put_other (fun hk => e (kPq_inj hp hq hk)), h.2.1 p hp]; simp [e]
  · by_cases e : p = q
    · subst e; exact hok
    · rw [has_put_other (fun hk => e (kPq_inj hp hq hk))] at hh
      exact h.2.2 p hp hh
theorem CntM.look {D : DataW Unit} {f : Pq → Int} {ok : Pq → Prop} (h : CntM D f ok) {q : Pq} (hq : wfP q) {c : Int} (hc : D.atKey (kPq q) (.lit (.int .i64 0)) = .lit (.int .i64 c)) : c = f q := by
  have e := (h.2.1 q hq).symm.trans hc
  injection e with e
  injection e with _ e
  exact e.symm
theorem CntM.ext {D : DataW Unit} {f g : Pq → Int} {ok : Pq → Prop} (h : CntM D f ok) (e : ∀ p, f p = g p) : CntM D g ok := by
  obtain rfl : f = g := funext e
  exact h
open Classical in
/-- A line more. -/
theorem cnt_two (L : List Lq) (j : Nat) (x : Lq) (hx : L[j]? = some x) (p : Pq) :
    (if p = ⟨x.bx, x.bz⟩ then (if (⟨x.bx, x.bz⟩ : Pq) = ⟨x.ax, x.ay⟩ then cntJ L ⟨x.ax, x.ay⟩ j + 1 else cntJ L ⟨x.bx, x.bz⟩ j) - 1 else (if p = ⟨x.ax, x.ay⟩ then cntJ L ⟨x.ax, x.ay⟩ j + 1 else cntJ L p j)) = cntJ L p (j + 1) := by
  rw [cntJ_step L p j x hx]
  obtain ⟨px, py⟩ := p
  obtain ⟨ax, ay, bx, bz⟩ := x
  by_cases e : (⟨px, py⟩ : Pq) = ⟨bx, bz⟩
  · rw [if_pos e]
    injection e with e1 e2
    subst e1 e2
    by_cases e' : (⟨px, py⟩ : Pq) = ⟨ax, ay⟩
    · rw [if_pos e']
      injection e' with e1 e2
      subst e1 e2
      simp
    · rw [if_neg e']
      have : ¬ (ax = px ∧ ay = py) := fun h => e' (by rw [h.1, h.2])
      simp [this]
  · rw [if_neg e]
    have h1 : ¬ (bx = px ∧ bz = py) := fun h => e (by rw [h.1, h.2])
    by_cases e' : (⟨px, py⟩ : Pq) = ⟨ax, ay⟩
    · rw [if_pos e']
      injection e' with e1 e2
      subst e1 e2
      simp [h1]
    · rw [if_neg e']
      have : ¬ (ax = px ∧ ay = py) := fun h => e' (by rw [h.1, h.2])
      simp [this, h1]
/-- Ends of lines of the list. -/
def EndOf (L : List Lq) (p : Pq) : Prop := ∃ (j : Nat) (x : Lq), L[j]? = some x ∧ (p = ⟨x.ax, x.ay⟩ ∨ p = ⟨x.bx, x.bz⟩)
theorem closed_end_not (L : List Lq) (p : Pq) (h : EndOf L p) (hn : cntL L p ≠ 0) : closedB L = false := by
  obtain ⟨j, x, hx, rfl | rfl⟩ := h
  · exact closed_not L j x hx (by unfold chkL; simp [hn])
  · exact closed_not L j x hx (by unfold chkL; simp [hn])
theorem closed_end_all (L : List Lq) (hw : ∀ x ∈ L, wfLq x) (h : ∀ p, wfP p → cntL L p = 0) : closedB L = true :=
  closed_all L fun j x hx => by
    have hm := hw x (List.mem_of_getElem? hx)
    unfold chkL
    simp [h _ hm.1, h _ hm.2]
theorem invKq (key : Value) (kl : Lit) (h : keyOf Try.prog 33 key = some kl) : ∃ x : Pq, key = Pt x.x x.y := by
  obtain ⟨x, y, h, _⟩ := keyOf_pt_inv h
  exact ⟨⟨x, y⟩, h⟩
theorem invVi (v : Value) (y : DataW Unit × List MemPlace) (h : plainElem Try.prog 3 v = some y) : ∃ c : Int, v = .int .i64 c := by
  obtain ⟨c, rfl, _⟩ := plainElem_int_inv Try.underlying3 h
  exact ⟨c, rfl⟩
theorem keyOf_pq {p : Pq} (hp : wfP p) : keyOf Try.prog 33 (.agg #[.int .i64 p.x, .int .i64 p.y]) = some (kPq p) := keyOf_pt hp.1 hp.2
theorem keyOf_pq_inv {p : Pq} {kl : Lit} (h : keyOf Try.prog 33 (Pt p.x p.y) = some kl) : kl = kPq p ∧ wfP p := by
  obtain ⟨u, v, e, rfl, w1, w2⟩ := keyOf_pt_inv h
  unfold Pt at e
  obtain ⟨e1, e2⟩ : p.x = u ∧ p.y = v := by simpa using e
  subst e1 e2
  exact ⟨rfl, w1, w2⟩
set_option maxRecDepth 100000 in
theorem keyLawPt : WideMaps.KeyLaw Try.prog 33 := deep_law_laid laidOut0 (m := 2) (by omega) rowPt (by kernel_rfl) widePt
/-- The map behind 'mapEntry': a key more with nought, or the same. -/
theorem entry_owns {w w2 : World} {b n : Nat} {D : DataW Unit} {c : Int} {key v : Value} {kl : Lit} (h : w.ownsMap Try.prog 33 (plainElem Try.prog 3) b n D) (hn : n < maxLen) (hkey : keyOf Try.prog 33 key = some kl) (hat : D.atKey kl (.lit (.int .i64 0)) = .lit (.int .i64 c))
    (hl : (Instr.lookup 86 (.map (some b)) key false).run Try.prog w = .ok (.int .i64 c) w)
    (hm : (Instr.mapEntry 86 (.map (some b)) key).run Try.prog w = .ok v w2) :
    (Instr.lookup 86 (.map (some b)) key false).run Try.prog w2 = .ok (.int .i64 c) w2 := by
  have ht := Try.underlying86
  have h0 := h
  obtain ⟨es, clock, hb, F, hs, hD⟩ := h0
  have key2 : ∃ (n' : Nat) (D' : DataW Unit), w2.ownsMap Try.prog 33 (plainElem Try.prog 3) b n' D' ∧ D'.atKey kl (.lit (.int .i64 0)) = .lit (.int .i64 c) := by
    rcases keyLawPt.find w hkey es.toList F.keys with ⟨h1, h2⟩ | ⟨j, e0, h1, h2, h3⟩
    · have e1 : (Instr.mapEntry 86 (.map (some b)) key).run Try.prog w = .ok (.tuple #[.int .i64 0, goInt clock]) (setBlock w b (.map (es.push ⟨key, .int .i64 0, clock⟩) (clock + 1))) := by
        simp [Instr.mapEntry, run_underlying ht, MapKept.run_getObj_map hb, keyLawPt.check w false hkey, h1, MapKept.run_setObj_map _ hb, Result.andThen, setBlock]
      have e2 : (Instr.mapUpdate 86 (.map (some b)) key (.int .i64 0)).run Try.prog w = .ok () (setBlock w b (.map (es.push ⟨key, .int .i64 0, clock⟩) (clock + 1))) := by
        simp [Instr.mapUpdate, run_underlying ht, MapKept.run_getObj_map hb, keyLawPt.check w false hkey, h1, MapKept.run_setObj_map _ hb, Result.andThen, setBlock]
      have e3 : (Instr.lookup 86 (.map (some b)) key false).run Try.prog w = .ok (.int .i64 0) w := by
        simp [Instr.lookup, run_underlying ht, MapKept.run_getObj_map hb, keyLawPt.check w _ hkey, h1, Result.andThen]
      have hc : c = 0 := by
        have := hl.symm.trans e3
        simpa using this
      obtain ⟨w', h4, h5, h6⟩ := h.update lawPt ht hn hkey (plainElem_int (H := Unit) Try.underlying3 (a := 0) (by decide))
      have e4 : w2 = setBlock w b (.map (es.push ⟨key, .int .i64 0, clock⟩) (clock + 1)) := by
        have := hm.symm.trans e1
        injection this
      have e5 : w' = setBlock w b (.map (es.push ⟨key, .int .i64 0, clock⟩) (clock + 1)) := by
        have := h4.symm.trans e2
        injection this
      have hmD : IsMap D := by rw [hD]; exact ⟨_, rfl⟩
      exact ⟨_, _, by rw [e4, ← e5]; exact h5, by rw [atKey_put_same hmD (lawPt.key hkey), hc]⟩
    · have hj : es[j]? = some e0 := by simpa using h2
      have hsame : es.modify j (fun e => { e with key := key }) = es := by
        apply Array.ext'
        rw [Array.toList_modify, modify_eq_set _ _ _ _ h2]
        have : ({ e0 with key := key } : MapEntry) = e0 := by rw [← h3]
        rw [this]
        exact WideElems.set_self _ _ _ h2
      have e1 : (Instr.mapEntry 86 (.map (some b)) key).run Try.prog w = .ok (.tuple #[e0.val, goInt e0.born]) (setBlock w b (.map es clock)) := by
        simp [Instr.mapEntry, run_underlying ht, MapKept.run_getObj_map hb, keyLawPt.check w false hkey, h1, hj, h3, keyLawPt.stays w hkey, hsame, MapKept.run_setObj_map _ hb, Result.andThen, setBlock]
      have e4 : w2 = setBlock w b (.map es clock) := by
        have := hm.symm.trans e1
        injection this
      exact ⟨n, D, by rw [e4]; exact ⟨es, clock, heap_setBlock_same hb _, F, hs, hD⟩, hat⟩
  obtain ⟨n', D', h7, h8⟩ := key2
  obtain ⟨c', hl', hat', _⟩ := h7.lookup_int lawPt ht Try.underlying3 (zeroIn w2) hkey
  have e : c' = c := by
    have e := hat'.symm.trans h8
    simpa using e
  subst e
  exact hl'
/-- 'm[k] op= v': the entry, then what is put into it. -/
theorem map_entry {w : World} {b n : Nat} {D : DataW Unit} (h : w.ownsMap Try.prog 33 (plainElem Try.prog 3) b n D) (hn : n < maxLen) {p : Pq} (hp : wfP p) :
    ∃ (c : Int) (v0 : Value) (st : Nat) (w2 : World), D.atKey (kPq p) (.lit (.int .i64 0)) = .lit (.int .i64 c) ∧ (Lit.int .i64 c).wf = true ∧
      (Instr.lookup 86 (.map (some b)) (.agg #[.int .i64 p.x, .int .i64 p.y]) false).run Try.prog w = .ok (.int .i64 c) w ∧
      (Instr.mapEntry 86 (.map (some b)) (.agg #[.int .i64 p.x, .int .i64 p.y])).run Try.prog w = .ok (.tuple #[v0, .int .i64 (st : Int)]) w2 ∧
      (Instr.lookup 86 (.map (some b)) (.agg #[.int .i64 p.x, .int .i64 p.y]) false).run Try.prog w2 = .ok (.int .i64 c) w2 ∧
      ∀ v : Int, (Lit.int .i64 v).wf = true → ∃ w3, (Instr.entryStore 86 (.map (some b)) (.int .i64 (st : Int)) (.int .i64 v)).run Try.prog w2 = .ok () w3 ∧ w3.ownsMap Try.prog 33 (plainElem Try.prog 3) b (n + 1) (D.put (kPq p) (.lit (.int .i64 v))) ∧ w.grownBy w3 (some b) := by
  obtain ⟨c, hlook, hat, hwc⟩ := h.lookup_int lawPt Try.underlying86 Try.underlying3 (zeroIn w) (keyOf_pq hp)
  have h0 := h
  obtain ⟨es, clock, hb, F, hs, hD⟩ := h0
  obtain ⟨v0, st, es1, clock1, hme, _, hst⟩ := WideElems.entry_then_store keyLawPt Try.underlying86 zeroIn hb F (keyOf_pq hp)
  refine ⟨c, v0, st, _, hat, hwc, hlook, hme, entry_owns h hn (keyOf_pq hp) hat hlook hme, fun v hv => ?_⟩
  obtain ⟨es', clock', h1, h2⟩ := hst (setBlock w b (.map es1 clock1)) (.int .i64 v) (heap_setBlock_same hb _)
  obtain ⟨w', h3, h4, h5⟩ := h.update lawPt Try.underlying86 hn (keyOf_pq hp) (plainElem_int (H := Unit) Try.underlying3 hv)
  have e : w' = setBlock w b (.map es' clock') := by
    have := h3.symm.trans h2
    injection this
  have e2 : setBlock (setBlock w b (.map es1 clock1)) b (.map es' clock') = w' := by
    rw [e]
    unfold setBlock
    simp
  exact ⟨_, h1, by rw [e2]; exact h4, by rw [e2]; exact h5⟩
end Go.Proofs.Ytdbenpncnkfliaa

/-
  Layer 14: the lines of pieces, in numbers.
-/
namespace Go.Proofs.Ytdbenpncnkfliaa
open Go.RowKit Go.ChangeShapes Go.WideShapes Go.Deep
set_option linter.unusedVariables false

/-- The lines of points in a row. -/
def lnsP : List Pq → List Lq
  | a :: b :: r => ⟨a.x, a.y, b.x, b.y⟩ :: lnsP (b :: r)
  | _ => []
theorem lnsP_snoc : ∀ (P : List Pq) (l p : Pq), P.getLast? = some l → lnsP (P ++ [p]) = lnsP P ++ [⟨l.x, l.y, p.x, p.y⟩]
  | [], l, p, h => by simp at h
  | [a], l, p, h => by simp at h; subst h; rfl
  | a :: b :: r, l, p, h => by
    have ih := lnsP_snoc (b :: r) l p (by simpa [List.getLast?_cons_cons] using h)
    show _ :: lnsP ((b :: r) ++ [p]) = _ :: (lnsP (b :: r) ++ _)
    rw [ih]
def ptsOf (s : Sg) : List Pq := ptsN s (stN s) (2 ^ stN s + 1)
def allL (S : List Sg) : List Lq := S.flatMap fun s => lnsP (ptsOf s)
theorem rnd_mul (a : Int) (n : Nat) (hn : n ≤ 9) : rndI (a * 2 ^ n * 2 ^ n) n = a ∧ rndI ((a * 2 ^ n + 0) * 2 ^ n) n = a := by
  have e : (2 : Int) ^ (2 * (n : Int)).toNat = 2 ^ n * 2 ^ n := by
    have : (2 * (n : Int)).toNat = n + n := by omega
    rw [this, Int.pow_add]
  have hp := pow_le9 hn
  have e2 : (2 : Int) ^ n = ((2 ^ n : Nat) : Int) := by simp
  unfold rndI
  rw [e, Int.add_zero, e2]
  generalize 2 ^ n = m at *
  have hm : (1 : Int) ≤ (m : Int) := by omega
  have hq : (1 : Int) ≤ (m : Int) * m := by
    have := Int.mul_le_mul_of_nonneg_right hm (by omega : (0 : Int) ≤ m)
    omega
  have h1 : (a * m * m + (m : Int) * m / 2) / ((m : Int) * m) = a := by
    rw [Int.mul_assoc]
    generalize (m : Int) * m = Q at *
    rw [Int.add_comm, Int.add_mul_ediv_right _ _ (by omega)]
    have : Q / 2 / Q = 0 := Int.ediv_eq_zero_of_lt (by omega) (by omega)
    omega
  exact ⟨h1, h1⟩
theorem rnd0 (s : Sg) (n : Nat) (hn : n ≤ 9) : rndP s n 0 = ⟨s.ax, s.ay⟩ := by
  have h1 := rnd_mul s.ax n hn
  have h2 := rnd_mul s.ay n hn
  unfold rndP atX atY atI curveI lineI
  simp only [Int.toNat_natCast, Int.natCast_zero, Int.sub_zero, Int.mul_zero, Int.zero_mul, Int.add_zero]
  simp only [Int.add_zero] at h1 h2
  cases s.k <;> simp [h1.1, h2.1]
theorem rndE (s : Sg) (n : Nat) (hn : n ≤ 9) : rndP s n (2 ^ n) = ⟨s.bx, s.bz⟩ := by
  have h1 := rnd_mul s.bx n hn
  have h2 := rnd_mul s.bz n hn
  unfold rndP atX atY atI curveI lineI
  simp only [Int.toNat_natCast, Int.natCast_pow, Int.cast_ofNat_Int, Int.sub_self, Int.mul_zero, Int.zero_add]
  simp only [Int.add_zero] at h1 h2
  cases s.k <;> simp [h1.1, h2.1]
theorem pq_eta (p : Pq) : (⟨p.x, p.y⟩ : Pq) = p := rfl
theorem way_pts (s : Sg) (L : List Lq) : ∀ k, wayPN s L (k + 1) = (L ++ lnsP (ptsN s (stN s) (k + 1)), rndP s (stN s) k) ∧ (ptsN s (stN s) (k + 1)).getLast? = some (rndP s (stN s) k)
  | 0 => by
    have h0 := rnd0 s (stN s) (stN_le s)
    constructor
    · show (addL L ⟨s.ax, s.ay⟩ (rndP s (stN s) 0), _) = _
      rw [h0]
      unfold addL
      simp only [beq_self_eq_true, Bool.and_self, if_true]
      simp [ptsN, addP, lnsP]
    · simp [ptsN, addP]
  | k + 1 => by
    obtain ⟨ih1, ih2⟩ := way_pts s L k
    have e1 : wayPN s L (k + 1 + 1) = (addL (wayPN s L (k + 1)).1 (wayPN s L (k + 1)).2 (rndP s (stN s) (k + 1)), rndP s (stN s) (k + 1)) := rfl
    have e2 : ptsN s (stN s) (k + 1 + 1) = addP (ptsN s (stN s) (k + 1)) (rndP s (stN s) (k + 1)) := rfl
    rw [e1, e2, ih1]
    unfold addL addP
    rw [ih2]
    by_cases h : ((rndP s (stN s) k).x == (rndP s (stN s) (k + 1)).x && (rndP s (stN s) k).y == (rndP s (stN s) (k + 1)).y) = true
    · simp only [h, if_true]
      refine ⟨by first | trivial | rfl, ?_⟩
      rw [ih2]
      simp only [Bool.and_eq_true, beq_iff_eq] at h
      rw [← pq_eta (rndP s (stN s) k), h.1, h.2]
    · simp only [h]
      refine ⟨?_, by simp⟩
      rw [if_neg (by simp), if_neg (by simp), lnsP_snoc _ _ _ ih2, List.append_assoc]
theorem segW_eq (s : Sg) (L : List Lq) : segW s L = L ++ lnsP (ptsOf s) := by
  unfold segW ptsOf
  rw [(way_pts s L _).1]
theorem allL_cons (s : Sg) (S : List Sg) : allL (s :: S) = lnsP (ptsOf s) ++ allL S := by simp [allL]
theorem allL_append (S T : List Sg) : allL (S ++ T) = allL S ++ allL T := by simp [allL]
theorem wayL_or (m : Int) : ∀ (S : List Sg) (L : List Lq), wayL m S L = L ++ allL S ∨ (m ≤ ((wayL m S L).length : Int) ∧ m ≤ ((L ++ allL S).length : Int))
  | [], L => .inl (by simp [wayL, allL])
  | s :: S, L => by
    simp only [wayL]
    by_cases h : m ≤ (L.length : Int)
    · rw [if_pos h]
      exact .inr ⟨h, by rw [List.length_append]; omega⟩
    · rw [if_neg h, segW_eq, allL_cons, ← List.append_assoc]
      exact wayL_or m S _
end Go.Proofs.Ytdbenpncnkfliaa

/-
  Layer 11: the reference's way of pieces, as lists: it comes to the same pieces.
-/
namespace Go.Proofs.Ytdbenpncnkfliaa
open Go.RowKit
set_option linter.unusedVariables false

/-- A knot. -/
structure Kt where
  (x y : Int) (o : Bool)
def kAt (X Y : Nat → Int) (O : Nat → Bool) (j : Nat) : Kt := ⟨X j, Y j, O j⟩
def lastOff (W : List Kt) (k : Kt) : Bool := match W.getLast? with
  | some l => !k.o && !l.o
  | none => false
def midK (l k : Kt) : Kt := ⟨mid l.x k.x, mid l.y k.y, true⟩
/-- One knot more on the way; a middle ahead of it where two lie off the curve. -/
def wayAdd (W : List Kt) (k : Kt) : List Kt := match W.getLast? with
  | some l => if !k.o && !l.o then W ++ [midK l k] ++ [k] else W ++ [k]
  | none => W ++ [k]
def wayStart (n : Nat) (X Y : Nat → Int) (O : Nat → Bool) : List Kt := if firstOn O n < n then [] else [midK (kAt X Y O (n - 1)) (kAt X Y O 0)]
def wayN (f n : Nat) (X Y : Nat → Int) (O : Nat → Bool) (W : List Kt) : Nat → List Kt
  | 0 => W
  | i + 1 => wayAdd (wayN f n X Y O W i) (kAt X Y O ((f + i) % n))
/-- The pieces that a way is cut into, from a place on, behind those that are there. -/
def cutR : (Int × Int) → List Sg → List Kt → List Sg
  | _, L, [] => L
  | h, L, [k] => if k.o then addS L ⟨h.1, h.2, 0, 0, k.x, k.y, false⟩ else L
  | h, L, k :: k2 :: r => if k.o then cutR (k.x, k.y) (addS L ⟨h.1, h.2, 0, 0, k.x, k.y, false⟩) (k2 :: r) else cutR (k2.x, k2.y) (addS L ⟨h.1, h.2, k.x, k.y, k2.x, k2.y, true⟩) r
theorem cutR_on (h : Int × Int) (L : List Sg) (k : Kt) (r : List Kt) (hk : k.o = true) : cutR h L (k :: r) = cutR (k.x, k.y) (addS L ⟨h.1, h.2, 0, 0, k.x, k.y, false⟩) r := by
  cases r with
  | nil => unfold cutR; rw [if_pos hk]
  | cons k2 r => rw [cutR, if_pos hk]
theorem cutR_off (h : Int × Int) (L : List Sg) (k k2 : Kt) (r : List Kt) (hk : k.o = false) : cutR h L (k :: k2 :: r) = cutR (k2.x, k2.y) (addS L ⟨h.1, h.2, k.x, k.y, k2.x, k2.y, true⟩) r := by
  rw [cutR, if_neg (by rw [hk]; simp)]
theorem cutR_nil (h : Int × Int) (L : List Sg) : cutR h L [] = L := by unfold cutR; rfl
theorem last_snoc (A : List Kt) (m : Kt) : (A ++ [m]).getLast? = some m := by simp
/-- What the way holds behind some knots, the last one kl: its pieces so far are R. -/
def WInv (W : List Kt) (w0 : Kt) (R : (Int × Int) × List Sg) (kl : Kt) : Prop :=
  W.getLast? = some kl ∧ ∃ P T, W = w0 :: (P ++ T) ∧ T = (if kl.o then [] else [kl]) ∧ ∀ Q, cutR (w0.x, w0.y) [] (P ++ Q) = cutR R.1 R.2 Q
section
variable (f n : Nat) (X Y : Nat → Int) (O : Nat → Bool)
theorem winv_step {W : List Kt} {w0 : Kt} {R : (Int × Int) × List Sg} {i : Nat} (h : WInv W w0 R (kAt X Y O ((f + i) % n))) :
    WInv (wayAdd W (kAt X Y O ((f + i + 1) % n))) w0 (stepS f n X Y O R.1 R.2 i) (kAt X Y O ((f + i + 1) % n)) := by
  obtain ⟨hl, P, T, hW, hT, hQ⟩ := h
  generalize hk : kAt X Y O ((f + i) % n) = k at *
  generalize hm : kAt X Y O ((f + i + 1) % n) = m at *
  have ek : O ((f + i) % n) = k.o := by rw [← hk]; rfl
  have em : O ((f + i + 1) % n) = m.o := by rw [← hm]; rfl
  have xk : X ((f + i) % n) = k.x := by rw [← hk]; rfl
  have yk : Y ((f + i) % n) = k.y := by rw [← hk]; rfl
  have xm : X ((f + i + 1) % n) = m.x := by rw [← hm]; rfl
  have ym : Y ((f + i + 1) % n) = m.y := by rw [← hm]; rfl
  unfold stepS wayAdd
  rw [ek, em, xk, yk, xm, ym, hl]
  clear ek em xk yk xm ym hk hm
  simp only
  cases hko : k.o <;> cases hmo : m.o <;> rw [hko] at hT <;> simp only [if_true, if_false, Bool.false_eq_true] at hT <;> subst hT hW
  · -- off, off
    refine ⟨last_snoc _ _, P ++ [k, midK k m], [m], by simp, by rw [hmo]; rfl, fun Q => ?_⟩
    rw [List.append_assoc, hQ]
    simp only [List.cons_append, List.nil_append]
    rw [cutR_off _ _ _ _ _ hko]
    rfl
  · refine ⟨last_snoc _ _, P ++ [k, m], [], by simp, by rw [hmo]; rfl, fun Q => ?_⟩
    rw [List.append_assoc, hQ]
    simp only [List.cons_append, List.nil_append]
    rw [cutR_off _ _ _ _ _ hko]
    rfl
  · refine ⟨last_snoc _ _, P, [m], by simp, by rw [hmo]; rfl, fun Q => ?_⟩
    rw [hQ]
    rfl
  · refine ⟨last_snoc _ _, P ++ [m], [], by simp, by rw [hmo]; rfl, fun Q => ?_⟩
    rw [List.append_assoc, hQ]
    simp only [List.cons_append, List.nil_append]
    rw [cutR_on _ _ _ _ hmo]
    rfl
end
theorem wayN_one (f n : Nat) (X Y : Nat → Int) (O : Nat → Bool) (W : List Kt) (hf : f < n) : wayN f n X Y O W 1 = wayAdd W (kAt X Y O f) := by
  show wayAdd W (kAt X Y O ((f + 0) % n)) = _
  rw [Nat.add_zero, Nat.mod_eq_of_lt hf]
theorem winv_way (n : Nat) (X Y : Nat → Int) (O : Nat → Bool) (hn : 0 < n) : ∃ w0, w0.o = true ∧ (w0.x, w0.y) = startS n X Y O ∧ ∀ i, WInv (wayN (frs n O) n X Y O (wayStart n X Y O) (i + 1)) w0 (runS (frs n O) n X Y O (startS n X Y O) i) (kAt X Y O ((frs n O + i) % n)) := by
  have hfo := firstOn_is O n
  have hf : frs n O < n := by unfold frs; split <;> omega
  by_cases hlt : firstOn O n < n
  · have ef : frs n O = firstOn O n := by unfold frs; rw [if_pos hlt]
    refine ⟨kAt X Y O (frs n O), by rw [ef]; exact hfo.2.2 hlt, by unfold startS; rw [if_pos hlt, ef]; rfl, fun i => ?_⟩
    induction i with
    | zero =>
      rw [Nat.zero_add, wayN_one _ _ _ _ _ _ hf]
      refine ⟨?_, [], [], ?_, ?_, fun Q => ?_⟩
      · unfold wayStart wayAdd; rw [if_pos hlt, Nat.add_zero, Nat.mod_eq_of_lt hf]; rfl
      · unfold wayStart wayAdd; rw [if_pos hlt]; rfl
      · rw [Nat.add_zero, Nat.mod_eq_of_lt hf, ef]; show [] = if O (firstOn O n) then [] else _; rw [hfo.2.2 hlt]; rfl
      · unfold runS startS; rw [if_pos hlt, ef]; rfl
    | succ i ih => exact winv_step _ _ _ _ _ ih
  · have ef : frs n O = 0 := by unfold frs; rw [if_neg hlt]
    have e0 : O 0 = false := hfo.2.1 0 (by omega)
    refine ⟨midK (kAt X Y O (n - 1)) (kAt X Y O 0), rfl, by unfold startS; rw [if_neg hlt]; rfl, fun i => ?_⟩
    induction i with
    | zero =>
      rw [Nat.zero_add, wayN_one _ _ _ _ _ _ hf]
      have ea : wayAdd (wayStart n X Y O) (kAt X Y O (frs n O)) = [midK (kAt X Y O (n - 1)) (kAt X Y O 0), kAt X Y O 0] := by
        unfold wayStart wayAdd; rw [if_neg hlt, ef]; simp [midK]
      rw [ea]
      refine ⟨?_, [], [kAt X Y O 0], rfl, ?_, fun Q => ?_⟩
      · rw [Nat.add_zero, Nat.mod_eq_of_lt hf, ef]; rfl
      · rw [Nat.add_zero, Nat.mod_eq_of_lt hf, ef]; show _ = if O 0 then [] else _; rw [e0]; rfl
      · unfold runS startS; rw [if_neg hlt]; rfl
    | succ i ih => exact winv_step _ _ _ _ _ ih
/-- The closed way is cut into the contour's pieces. -/
theorem way_cut (n : Nat) (X Y : Nat → Int) (O : Nat → Bool) (hn : 0 < n) : ∃ w0 r, wayN (frs n O) n X Y O (wayStart n X Y O) n = w0 :: r ∧ w0.o = true ∧ cutR (w0.x, w0.y) [] (r ++ [w0]) = segsL n X Y O := by
  obtain ⟨w0, ho, hs, hall⟩ := winv_way n X Y O hn
  have h := hall (n - 1)
  rw [Nat.sub_add_cancel hn] at h
  obtain ⟨_, P, T, hW, hT, hQ⟩ := h
  have hf : frs n O < n := by unfold frs; split <;> omega
  refine ⟨w0, P ++ T, hW, ho, ?_⟩
  have hrun : segsL n X Y O = (stepS (frs n O) n X Y O (runS (frs n O) n X Y O (startS n X Y O) (n - 1)).1 (runS (frs n O) n X Y O (startS n X Y O) (n - 1)).2 (n - 1)).2 := by
    unfold segsL
    rw [if_neg (by omega)]
    have e : n = (n - 1) + 1 := by omega
    have e2 : (runS (frs n O) n X Y O (startS n X Y O) n).2 = (runS (frs n O) n X Y O (startS n X Y O) ((n - 1) + 1)).2 := by rw [← e]
    rw [e2]
    rfl
  rw [hrun, List.append_assoc, hQ]
  generalize runS (frs n O) n X Y O (startS n X Y O) (n - 1) = R at *
  have em : (frs n O + (n - 1) + 1) % n = frs n O := by
    rw [show frs n O + (n - 1) + 1 = frs n O + n by omega, Nat.add_mod_right, Nat.mod_eq_of_lt hf]
  unfold stepS
  rw [em]
  have hko : (kAt X Y O ((frs n O + (n - 1)) % n)).o = O ((frs n O + (n - 1)) % n) := rfl
  rw [hko] at hT
  obtain ⟨wx, wy, wo⟩ := w0
  simp only at ho hs hQ
  subst ho
  have hfo := firstOn_is O n
  by_cases hlt : firstOn O n < n
  · have ef : frs n O = firstOn O n := by unfold frs; rw [if_pos hlt]
    have eo : O (frs n O) = true := by rw [ef]; exact hfo.2.2 hlt
    rw [eo]
    unfold startS at hs
    rw [if_pos hlt, ← ef] at hs
    injection hs with hs1 hs2
    rw [← hs1, ← hs2]
    cases hk : O ((frs n O + (n - 1)) % n) <;> rw [hk] at hT <;> simp only [if_true, if_false, Bool.false_eq_true] at hT <;> subst hT
    · show cutR R.1 R.2 [kAt X Y O ((frs n O + (n - 1)) % n), ⟨wx, wy, true⟩] = _
      rw [cutR_off _ _ _ _ _ hk, cutR_nil]
      rfl
    · show cutR R.1 R.2 [⟨wx, wy, true⟩] = _
      rw [cutR_on _ _ _ _ rfl, cutR_nil]
      rfl
  · have ef : frs n O = 0 := by unfold frs; rw [if_neg hlt]
    have eo : O 0 = false := hfo.2.1 0 (by omega)
    have el : (frs n O + (n - 1)) % n = n - 1 := by rw [ef, Nat.zero_add, Nat.mod_eq_of_lt (by omega)]
    have eo' : O (n - 1) = false := hfo.2.1 (n - 1) (by omega)
    rw [el, ef, eo, eo']
    rw [el, eo'] at hT
    simp only [if_false, Bool.false_eq_true] at hT
    subst hT
    unfold startS at hs
    rw [if_neg hlt] at hs
    injection hs with hs1 hs2
    show cutR R.1 R.2 [kAt X Y O (n - 1), ⟨wx, wy, true⟩] = _
    rw [cutR_off _ _ _ _ _ eo', cutR_nil]
    simp only [if_false, Bool.false_eq_true]
    rw [← hs1, ← hs2]
    rfl
theorem wayAdd_len (W : List Kt) (k : Kt) : (wayAdd W k).length ≤ W.length + 2 ∧ W.length < (wayAdd W k).length := by
  unfold wayAdd
  split
  · split <;> simp
  · simp
theorem wayN_len (f n : Nat) (X Y : Nat → Int) (O : Nat → Bool) (W : List Kt) : ∀ i, (wayN f n X Y O W i).length ≤ W.length + 2 * i
  | 0 => by simp [wayN]
  | i + 1 => by
    have ih := wayN_len f n X Y O W i
    have h := (wayAdd_len (wayN f n X Y O W i) (kAt X Y O ((f + i) % n))).1
    unfold wayN
    omega
/-- The way ahead of a knot: with a middle, where it and the last one lie off the curve. -/
def wayPre (W : List Kt) (k : Kt) : List Kt := match W.getLast? with
  | some l => if !k.o && !l.o then W ++ [midK l k] else W
  | none => W
theorem wayAdd_eq (W : List Kt) (k : Kt) : wayAdd W k = wayPre W k ++ [k] := by
  unfold wayAdd wayPre
  split
  · split <;> rfl
  · rfl
theorem wayPre_len (W : List Kt) (k : Kt) : (wayPre W k).length ≤ W.length + 1 := by
  unfold wayPre
  split
  · split <;> simp
  · simp
theorem last_get {W : List Kt} {l : Kt} (h : W.getLast? = some l) : 0 < W.length ∧ W[W.length - 1]? = some l := by
  rw [List.getLast?_eq_getElem?] at h
  refine ⟨?_, h⟩
  cases W with
  | nil => simp at h
  | cons a r => simp
theorem wayPre_no {W : List Kt} {k : Kt} (h : lastOff W k = false) : wayPre W k = W := by
  unfold lastOff at h
  unfold wayPre
  cases hg : W.getLast? with
  | none => rfl
  | some l => rw [hg] at h; simp only at h ⊢; rw [h]; rfl
theorem wayPre_yes {W : List Kt} {k : Kt} (h : lastOff W k = true) : ∃ l, W.getLast? = some l ∧ wayPre W k = W ++ [midK l k] := by
  unfold lastOff at h
  unfold wayPre
  cases hg : W.getLast? with
  | none => rw [hg] at h; cases h
  | some l => rw [hg] at h; simp only at h ⊢; exact ⟨l, rfl, by rw [h]; rfl⟩
theorem wayN_in {f n : Nat} {X Y : Nat → Int} {O : Nat → Bool} (hn : 0 < n) (hX : ∀ j, j < n → InP (X j) (Y j)) : ∀ i, ∀ l, l ∈ wayN f n X Y O (wayStart n X Y O) i → InP l.x l.y
  | 0, l, h => by
    unfold wayN wayStart at h
    split at h
    · cases h
    · simp only [List.mem_cons, List.not_mem_nil, or_false] at h
      subst h
      exact ⟨mid_in (hX _ (by omega)).1 (hX _ hn).1, mid_in (hX _ (by omega)).2 (hX _ hn).2⟩
  | i + 1, l, h => by
    have ih := wayN_in (f := f) (O := O) hn hX i
    unfold wayN at h
    rw [wayAdd_eq] at h
    have hk : InP (kAt X Y O ((f + i) % n)).x (kAt X Y O ((f + i) % n)).y := hX _ (Nat.mod_lt _ hn)
    generalize kAt X Y O ((f + i) % n) = k at *
    generalize wayN f n X Y O (wayStart n X Y O) i = W at *
    rw [List.mem_append] at h
    rcases h with h | h
    · unfold wayPre at h
      split at h
      · rename_i l' hl
        split at h
        · rw [List.mem_append] at h
          rcases h with h | h
          · exact ih l h
          · simp only [List.mem_cons, List.not_mem_nil, or_false] at h
            subst h
            have hl' := ih l' (List.mem_of_getLast? hl)
            exact ⟨mid_in hl'.1 hk.1, mid_in hl'.2 hk.2⟩
        · exact ih l h
      · exact ih l h
    · simp only [List.mem_cons, List.not_mem_nil, or_false] at h
      subst h
      exact hk
theorem addS_len2 (L : List Sg) (s : Sg) : (addS L s).length ≤ L.length + 1 := addS_len L s
end Go.Proofs.Ytdbenpncnkfliaa
