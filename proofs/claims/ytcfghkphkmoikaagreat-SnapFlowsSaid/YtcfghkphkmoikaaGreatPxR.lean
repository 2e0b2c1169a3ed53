/-
  Layer 16: 'Hot', walked.
-/
import Derived.Test.YtcfghkphkmoikaaGreatMqQ
import Derived.Test.YtcfghkphkmoikaaGreatMqH
import Derived.Test.YtcfghkphkmoikaaGreatCrSh
namespace Go.Proofs.YtcfghkphkmoikaaGreat
set_option maxRecDepth 100000
open Go.RowKit Go.Maps
open Go.Sort
set_option linter.unusedVariables false

/-- What 'Hot' answers. -/
def HotOut (L : List Ln) (w : World) (e : Ending) (w' : World) : Prop :=
  Since w w' ∧ ((4096 < L.length ∧ e = .returned (.tuple #[.slice none 0 0, .int .i64 7])) ∨ (L.length ≤ 4096 ∧ (∃ l ∈ L, lnG l = false) ∧ e = .returned (.tuple #[.slice none 0 0, .int .i64 6])) ∨
    (L.length ≤ 4096 ∧ (∀ l ∈ L, lnG l = true) ∧ ∃ v H, e = .returned (.tuple #[v, .int .i64 0]) ∧ OwnG 23 2 ptL w' w.heap.size v H ∧ HotL L H))
set_option maxRecDepth 100000 in
set_option maxHeartbeats 4000000 in
theorem px_hot_many (A : Option Addr) (c : Nat) (L : List Ln) (w : World) (hL : 4096 < L.length) :
    Calls Tryz.prog 36 #[.slice A L.length c] w fun e w' => HotOut L w e w' := by
  obtain ⟨n, hn⟩ : ∃ n, n = L.length := ⟨_, rfl⟩
  have HN := Lib.hid hn
  rw [← hn] at hL ⊢
  have hL' : (4096 : Int) < n := by omega
  clear hn
  go_enter Tryz.func36, Tryz.ntmps36
  go_wp2_with fail
  go_ret2
  exact ⟨Since.refl _, .inl ⟨by rw [← HN.out]; exact hL, rfl⟩⟩
theorem map_heap {w : World} {b n : Nat} {M : List (Int × Int)} (h : MapOf w b n M) : ∀ cs t z, w.heap[b]? ≠ some (Obj.cells cs t z) := by
  obtain ⟨es, clock, hb, r⟩ := h
  intro cs t z e
  rw [hb] at e
  cases e
theorem endsP_len : ∀ L : List Ln, (endsP L).length = 2 * L.length
  | [] => rfl
  | a :: r => by
    have := endsP_len r
    unfold endsP at this ⊢
    rw [List.flatMap_cons, List.length_append, List.length_cons, this]
    simp
    omega
theorem metsP_len : ∀ Q : List (Ln × Ln), (metsP Q).length ≤ Q.length
  | [] => Nat.le_refl _
  | a :: r => by
    have h := metsP_len r
    have : (metP a.1 a.2).length ≤ 1 := by unfold metP; split <;> simp
    unfold metsP at h ⊢
    rw [List.flatMap_cons, List.length_append, List.length_cons]
    omega
theorem addKeys_len : ∀ (xs L : List Lit), (xs.foldl addKey L).length ≤ L.length + xs.length
  | [], L => Nat.le_refl _
  | y :: r, L => by
    rw [List.foldl_cons]
    have h := addKeys_len r (addKey L y)
    have : (addKey L y).length ≤ L.length + 1 := by unfold addKey; split <;> simp
    rw [List.length_cons]
    omega
theorem size_le {u : DataW Unit} {xs : List Lit} (h : ∀ x ∈ xs, WideAt.IsKeyLit x) : Maps.size (setOf u xs) ≤ xs.length := by
  rw [size_setOf u _ h]
  have := addKeys_len xs []
  simpa using this
theorem pxI_wf {x : Int} (h : -4194304 ≤ x ∧ x ≤ 4194304) : (Lit.int .i64 (pxI x)).wf = true := wf_of64 (by unfold pxI In64; omega)
theorem hot_wf {L : List Ln} {M : List (Int × Int)} (hg : ∀ l ∈ L, lnG l = true) (hm : ∀ e, e ∈ M ↔ IsHot L e) : WfL M := by
  intro e he
  rcases (hm e).1 he with ⟨l, hl, h⟩ | ⟨s, hs, t, ht, hk, h⟩
  · have k1 := goodB_iff.1 (Bool.and_eq_true_iff.1 (hg l hl)).1
    have k2 := goodB_iff.1 (Bool.and_eq_true_iff.1 (hg l hl)).2
    rcases h with rfl | rfl
    · exact ⟨pxI_wf (by omega), pxI_wf (by omega)⟩
    · exact ⟨pxI_wf (by omega), pxI_wf (by omega)⟩
  · obtain ⟨ha, e1⟩ := meet_k_apart hk
    rw [e1] at hk h
    have hsh := meet_sh s t (hg s hs) (hg t ht) hk
    have m1 := mid_in hsh.1
    have m2 := mid_in hsh.2
    rw [h]
    unfold pixX pixY
    rw [if_pos hk, if_pos hk]
    exact ⟨wf_of64 (by unfold In64; simp only; omega), wf_of64 (by unfold In64; simp only; omega)⟩
theorem invKp (key : Value) (kl : Lit) (h : keyOf Tryz.prog 23 key = some kl) : ∃ x : Pq, key = Pt x.x x.y := by
  obtain ⟨x, y, h, _⟩ := keyOf_pt_inv h
  exact ⟨⟨x, y⟩, h⟩
theorem nodup_len {α : Type} [DecidableEq α] : ∀ (H M : List α), H.Nodup → (∀ x ∈ H, x ∈ M) → H.length ≤ M.length
  | [], _, _, _ => Nat.zero_le _
  | a :: r, M, hn, hs => by
    obtain ⟨h1, h2⟩ := List.nodup_cons.1 hn
    have ha := hs a (by simp)
    have h3 := nodup_len r (M.erase a) h2 (fun x hx => (List.mem_erase_of_ne (fun e => h1 (by rw [← e]; exact hx))).2 (hs x (List.mem_cons_of_mem _ hx)))
    rw [List.length_erase_of_mem ha] at h3
    have : 0 < M.length := List.length_pos_of_mem ha
    rw [List.length_cons]
    omega
/-- What is gathered while some keys are left. -/
def HotH (M : List (Int × Int)) (left : Lit → Bool) (H : List Pq) : Prop := H.Nodup ∧ ∀ p : Pq, p ∈ H ↔ ((p.x, p.y) ∈ M ∧ left (kP p.x p.y) = false)
theorem HotH.len {M : List (Int × Int)} {left : Lit → Bool} {H : List Pq} (h : HotH M left H) : H.length ≤ M.length := by
  have h2 : (H.map fun p => (p.x, p.y)).Nodup := by
    refine List.Pairwise.map _ (fun a b hab e => hab ?_) h.1
    obtain ⟨a1, a2⟩ := a
    obtain ⟨b1, b2⟩ := b
    simp only [Prod.mk.injEq] at e
    rw [e.1, e.2]
  have h3 := nodup_len _ M h2 (fun x hx => by
    obtain ⟨p, hp, rfl⟩ := List.mem_map.1 hx
    exact ((h.2 p).1 hp).1)
  simpa using h3
theorem hotH_start {M : List (Int × Int)} (hW : WfL M) : HotH M (Maps.has (setOf (H := Unit) (.agg []) (kL M))) [] :=
  ⟨List.nodup_nil, fun p => ⟨(fun h => by cases h), fun ⟨h1, h2⟩ => by
    rw [(has_kL hW (hW _ h1).1 (hW _ h1).2).2 h1] at h2
    cases h2⟩⟩
theorem HotH.done {M : List (Int × Int)} {left : Lit → Bool} {H : List Pq} {L : List Ln} (h : HotH M left H) (hl : ∀ kl, left kl = false) (hm : ∀ e, e ∈ M ↔ IsHot L e) : H.Nodup ∧ ∀ p : Pq, p ∈ H ↔ IsHot L (p.x, p.y) :=
  ⟨h.1, fun p => by rw [h.2 p, hm, hl]; simp⟩
theorem HotH.step {M : List (Int × Int)} {left : Lit → Bool} {H : List Pq} (hW : WfL M) (h : HotH M left H) {p : Pq} (hp : (p.x, p.y) ∈ M) (hl : left (kP p.x p.y) = true) : HotH M (fun z => left z && !z.sameKey (kP p.x p.y)) (H ++ [p]) := by
  have hnot : p ∉ H := fun hh => by have := ((h.2 p).1 hh).2; rw [hl] at this; cases this
  refine ⟨?_, fun q => ?_⟩
  · rw [List.nodup_append]
    refine ⟨h.1, by simp, fun a ha b hb e => ?_⟩
    have : b = p := by simpa using hb
    subst this
    subst e
    exact hnot ha
  · rw [List.mem_append, List.mem_singleton]
    constructor
    · rintro (hq | rfl)
      · obtain ⟨h1, h2⟩ := (h.2 q).1 hq
        refine ⟨h1, ?_⟩
        show (left (kP q.x q.y) && !(kP q.x q.y).sameKey (kP p.x p.y)) = false
        rw [h2]; rfl
      · refine ⟨hp, ?_⟩
        show (left (kP q.x q.y) && !(kP q.x q.y).sameKey (kP q.x q.y)) = false
        have := WideAt.sameKey_self (kP_key (hW _ hp).1 (hW _ hp).2)
        simp only at this
        rw [this]; simp
    · rintro ⟨h1, h2⟩
      have h2 : (left (kP q.x q.y) && !(kP q.x q.y).sameKey (kP p.x p.y)) = false := h2
      cases hlq : left (kP q.x q.y)
      · exact .inl ((h.2 q).2 ⟨h1, hlq⟩)
      · rw [hlq] at h2
        have hs : (kP q.x q.y).sameKey (kP p.x p.y) = true := by simpa using h2
        obtain ⟨e1, e2⟩ := kP_inj (hW _ h1).1 (hW _ h1).2 (hW _ hp).1 (hW _ hp).2 (WideAt.sameKey_eq hs)
        right
        obtain ⟨a, b⟩ := q
        obtain ⟨c, d⟩ := p
        simp only at e1 e2
        rw [e1, e2]
theorem px_sortp_any (w0 w : World) (base : Nat) (v : Value) (L : List Pq) (hS : Since w0 w) (hb : w0.heap.size ≤ base) (hO : OwnG 23 2 ptL w base v L) (hL : L.length < 4611686018427387904) :
    Calls Tryz.prog 57 #[v, .func (.func 66) #[] #[]] w fun e w' => (∃ u, e = .returned u) ∧ ∃ L', List.Perm L' L ∧ SortedL (Go.Proofs.ltOf cmpP) L' ∧ OwnG 23 2 ptL w' base v L' ∧ Since w0 w' := by
  have hO2 := hO
  obtain ⟨_, h2⟩ := hO2
  rcases h2 with ⟨rfl, h0⟩ | ⟨g, cap, cur, rfl, _⟩
  · have hl0 : L = [] := List.length_eq_zero_iff.1 h0
    subst hl0
    have h := Go.Proofs.AnyF.slices_SortFunc_none sortPt none 0 (.func (.func 66) #[] #[]) w
    change Calls Tryz.prog 57 _ _ _ at h
    refine h.mono ?_
    rintro e w' ⟨rfl, rfl⟩
    exact ⟨⟨_, rfl⟩, [], List.Perm.refl _, List.Pairwise.nil, hO, hS⟩
  · refine (px_sortp w0 w base g cap L hS hb hO hL).mono ?_
    rintro e w' ⟨hv, L', hp, hs, ho, hs', hk⟩
    exact ⟨hv, L', hp, hs, ho, hs'⟩
theorem grown_of_since {w w' : World} (h : Since w w') : w.grownBy w' none := ⟨h.below.os, h.below.tape, h.below.output, h.below.size, fun i hi _ => h.below.block i hi⟩
theorem OwnG.ne_iter {α : Type} {enc : α → List Value} {t : TypeId} {k base b r n cnt : Nat} {w : World} {v : Value} {L : List α} {D : DataW Unit} {left : Lit → Bool} {kt : TypeId} {R : Value → Option (DataW Unit × List MemPlace)} (h : OwnG t k enc w base v L) {q : Nat} (hq : v.ownBlock = some q) (hr : w.ranges Tryz.prog kt R b r n D left cnt) : r ≠ q := by
  intro e
  subst e
  rcases h.2 with ⟨rfl, _⟩ | ⟨g, cap, cur, rfl, _, hh, _⟩
  · simp [Value.ownBlock] at hq
  · simp only [Value.ownBlock, Option.some.injEq] at hq
    subst hq
    obtain ⟨es, clock, sn, seen, c0, _, _, _, _, h5, _⟩ := hr
    rw [hh] at h5
    cases h5
theorem OwnG.ne_map {α : Type} {enc : α → List Value} {t : TypeId} {k base b n : Nat} {w : World} {v : Value} {L : List α} {D : DataW Unit} {kt : TypeId} {R : Value → Option (DataW Unit × List MemPlace)} (h : OwnG t k enc w base v L) {q : Nat} (hq : v.ownBlock = some q) (hr : w.ownsMap Tryz.prog kt R b n D) : b ≠ q := by
  intro e
  subst e
  rcases h.2 with ⟨rfl, _⟩ | ⟨g, cap, cur, rfl, _, hh, _⟩
  · simp [Value.ownBlock] at hq
  · simp only [Value.ownBlock, Option.some.injEq] at hq
    subst hq
    obtain ⟨es, clock, h5, _⟩ := hr
    rw [hh] at h5
    cases h5
def HotI (w0 : World) (bm bv : Nat) (L : List Ln) (d : List (Ln × Ln)) (w : World) : Prop :=
  ∃ n, n ≤ 8192 + d.length ∧ MapOf w bm n (endsP L ++ metsP d) ∧ w.cell? ⟨bv, 0, none⟩ = some (.map (some bm)) ∧ bv < w.heap.size ∧ Since w0 w
theorem metsP_snoc (d : List (Ln × Ln)) (s t : Ln) : metsP (d ++ [(s, t)]) = metsP d ++ metP s t := by unfold metsP; simp
theorem hot_step (w0 : World) (bm bv : Nat) (hbm : w0.heap.size ≤ bm) (hne : bm ≠ bv) (L : List Ln) (hwf : ∀ l ∈ L, l.wf) (hsh : ∀ s ∈ L, ∀ t ∈ L, (meetCp s t).k = 1 → ShOK (meetCp s t).x (meetCp s t).d ∧ ShOK (meetCp s t).y (meetCp s t).d) :
    StepP 63 #[.pointer (some ⟨bv, 0, none⟩)] L (HotI w0 bm bv L) := by
  intro d s t w1 hd hs ht ⟨n, hn, hM, hc, hl, hS⟩
  refine (px_hot1 s t (hwf s hs) (hwf t ht) (hsh s hs t ht) bv bm n _ w1 hc hl hM (by omega)).mono ?_
  rintro e w2 ⟨hv, n', hn', hM2, wy, hwy, hg⟩
  have hK : KC w1 w2 ∧ Since w0 w2 := by
    rcases hg with rfl | hg
    · exact ⟨KC.of_since hwy, hS.trans hwy⟩
    · exact ⟨(KC.of_since hwy).grown hg (map_heap (hM.since hwy)), since_grown (hS.trans hwy) hg (fun k hk => by injection hk with hk; omega)⟩
  refine ⟨hv, ⟨n', by rw [List.length_append]; simp; omega, by rw [metsP_snoc, ← List.append_assoc]; exact hM2, hK.1.cell hc, Nat.lt_of_lt_of_le hl hK.1.1, hK.2⟩, hK.1⟩
theorem LnAt.grown {w w' : World} {b B : Nat} {l : Ln} (h : LnAt w b l) (hg : w.grownBy w' (some B)) (hb : B ≠ b) : LnAt w' b l := by
  obtain ⟨h1, h2, h3, h4, h5⟩ := h
  have hr : (some B : Option Nat) ≠ some b := fun e => hb (by injection e)
  exact ⟨cell_grown h1 h5 hg hr, cell_grown h2 h5 hg hr, cell_grown h3 h5 hg hr, cell_grown h4 h5 hg hr, Nat.lt_of_lt_of_le h5 hg.size⟩
theorem endsP_take {L : List Ln} {j : Nat} {s : Ln} (h : L[j]? = some s) : endsP (L.take (j + 1)) = endsP (L.take j) ++ [(pxI s.ax, pxI s.ay)] ++ [(pxI s.bx, pxI s.bz)] := by
  unfold endsP
  rw [List.take_add_one, h]
  simp [pxA, pxB]
theorem MapOf.put {w' : World} {b n : Nat} {L : List (Int × Int)} {x y : Int} (h : World.ownsMap w' Tryz.prog 23 (unitElem (H := Unit)) b n ((setOf (.agg []) (kL L)).put (kP x y) (.agg []))) : MapOf w' b n (L ++ [(x, y)]) := by
  show World.ownsMap _ _ _ _ _ _ (setOf (.agg []) (kL (L ++ [(x, y)])))
  rw [kL_snoc]; exact h
set_option maxRecDepth 100000 in
set_option maxHeartbeats 16000000 in
theorem px_hot_few (A : Option Addr) (c : Nat) (L : List Ln) (w : World) (hr : RdG 4 lnE w w.heap.size A L) (hL : L.length ≤ 4096) (hwf : ∀ l ∈ L, l.wf) :
    Calls Tryz.prog 36 #[.slice A L.length c] w fun e w' => HotOut L w e w' := by
  have hmm := @run_makeMap Tryz.prog
  obtain ⟨n, hn⟩ : ∃ n, n = L.length := ⟨_, rfl⟩
  have HN := Lib.hid hn
  rw [← hn] at hL ⊢
  have HR := Lib.hid hr; have HWF := Lib.hid hwf
  have hLn : ¬ (4096 : Int) < n := by omega
  clear hn hr hwf
  go_enter Tryz.func36, Tryz.ntmps36
  go_wp2_with fail
  refine wp_named fun w0 hw0 => ?_
  have hM0 : MapOf w0 w.heap.size 0 (endsP (L.take 0)) := by subst hw0; exact (map_made w _ rfl).since ((Since.refl _).alloc _)
  have hc0 : w0.cell? ⟨w.heap.size + 1, 0, none⟩ = some (.map (some w.heap.size)) := by subst hw0; first | (simp; done) | (rw [World.cell?_alloc_new']; rfl)
  have hl0 : w.heap.size + 1 < w0.heap.size := by subst hw0; simp
  have hS0 : Since w w0 := by subst hw0; (repeat (first | with_reducible (exact Since.refl _) | with_reducible assumption | with_reducible (refine Since.drew ?_) | with_reducible (refine Since.drewN ?_ _) | with_reducible (refine Since.alloc ?_ _) | (with_reducible (refine Since.setCell ?_ ?_ _); rotate_left; focus (first | (simp; done) | (simp; omega) | omega)) | (with_reducible (refine Since.trans ?_ (by with_reducible assumption)))))
  clear hw0 hmm
  obtain ⟨bm, hbm⟩ : ∃ bm, bm = w.heap.size := ⟨_, rfl⟩
  have HBM := Lib.hid hbm
  have hbv : bm < bm + 1 := Nat.lt_succ_self _
  rw [← hbm] at hM0 hc0 hl0 ⊢
  clear hbm
  generalize bm + 1 = bv at *
  have hne : bm ≠ bv := Nat.ne_of_lt hbv
  go_loopw [15] (fun y wr => ∃ (j m : Nat), j ≤ n ∧ y = .int .i64 (j : Int) ∧ m ≤ 2 * j ∧ MapOf wr bm m (endsP (L.take j)) ∧ (∀ l ∈ L.take j, lnG l = true) ∧ wr.cell? ⟨bv, 0, none⟩ = some (.map (some bm)) ∧ bv < wr.heap.size ∧ Since w wr) (fun y _ => n - (intOf y).toNat)
  case atStart => exact ⟨0, 0, by omega, rfl, by omega, hM0, fun l h => by simp at h, hc0, hl0, hS0⟩
  case round =>
    obtain ⟨j, m, hj, rfl, hm, hM, hG, hc, hl, hS⟩ := hrel
    by_cases hjn : j < n
    · have hjn' : (j : Int) < n := by omega
      have hnn := HN.out
      obtain ⟨b, o, rfl, hb, hcell⟩ := HR.out (by omega)
      obtain ⟨s, hs⟩ : ∃ s, L[j]? = some s := ⟨_, List.getElem?_eq_getElem (by omega)⟩
      have hsL := List.mem_of_getElem? hs
      have c1 := (hS.1 _ _ hb).trans (hcell j _ hs 0 (by omega))
      have c2 := (hS.1 _ _ hb).trans (hcell j _ hs 1 (by omega))
      have c3 := (hS.1 _ _ hb).trans (hcell j _ hs 2 (by omega))
      have c4 := (hS.1 _ _ hb).trans (hcell j _ hs 3 (by omega))
      simp only [lnE, List.getD_cons_succ, List.getD_cons_zero, Nat.add_zero] at c1 c2 c3 c4
      have hj0 : (0 : Int) ≤ j := by omega
      have hbr : b < wr.heap.size := hS.2.2.1 _ hb
      have hwfs := HWF.out s hsL
      have HS := Lib.hid hs
      have HSL := Lib.hid hsL
      clear hnn hcell hs hsL
      go_upto_region 7 with fail
      refine wp_named fun wa hwa => ?_
      have hLa : LnAt wa wr.heap.size s := by subst hwa; exact ln_new wr _ rfl s _
      have hTa : Since wr wa := by subst hwa; exact (Since.refl _).alloc _
      have hMa := hM.since hTa
      have hca := (hTa.1 _ _ hl).trans hc
      have hla := hTa.2.2.1 _ hl
      have hSa := hS.trans hTa
      have hbs : bm ≠ wr.heap.size := Nat.ne_of_lt (show bm < wr.heap.size from hM.lt)
      clear hwa c1 c2 c3 c4 hM hc hl hS hTa
      obtain ⟨l1, l2, l3, l4, l5⟩ := id hLa
      have hg := fun w b hb t => good2 w b hb s.ax s.ay s.bx s.bz t hwfs.1 hwfs.2
      have hlg : (goodB s.ax s.ay && goodB s.bx s.bz) = lnG s := rfl
      simp only [hlg] at hg
      clear hlg
      generalize wr.heap.size = sb at *
      cases hgs : lnG s
      · rw [hgs] at hg
        have HG := Lib.hid hg; have HGS := Lib.hid hgs
        clear hg hgs
        go_wp2_with (go_at_call 61; (with_reducible refine (HG.out _ _ (by first | rfl | simp) _).mono ?_); rintro e w1 ⟨rfl, hS1⟩)
        go_ret2
        exact ⟨by (repeat (first | with_reducible (exact Since.refl _) | with_reducible assumption | with_reducible (refine Since.drew ?_) | with_reducible (refine Since.drewN ?_ _) | with_reducible (refine Since.alloc ?_ _) | (with_reducible (refine Since.setCell ?_ ?_ _); rotate_left; focus (first | (simp; done) | (simp; omega) | omega)) | (with_reducible (refine Since.trans ?_ (by with_reducible assumption))))), .inr (.inl ⟨by rw [← HN.out]; exact hL, ⟨s, HSL.out, HGS.out⟩, rfl⟩)⟩
      · rw [hgs] at hg
        have HG := Lib.hid hg; have HGS := Lib.hid hgs
        have hgg := hgs
        unfold lnG at hgg
        have i1 := goodB_iff.1 (Bool.and_eq_true_iff.1 hgg).1
        have i2 := goodB_iff.1 (Bool.and_eq_true_iff.1 hgg).2
        have HK1 := Lib.hid (keyOf_pt (pxI_wf (x := s.ax) (by omega)) (pxI_wf (x := s.ay) (by omega)))
        have HK2 := Lib.hid (keyOf_pt (pxI_wf (x := s.bx) (by omega)) (pxI_wf (x := s.bz) (by omega)))
        have HO1 := Lib.hid (fun w => px_of s.ax s.ay (by omega) (by omega) w)
        have HO2 := Lib.hid (fun w => px_of s.bx s.bz (by omega) (by omega) w)
        unfold Pt at HK1 HK2 HO1 HO2
        clear hg hgs hgg i1 i2
        go_upto_region 9 with (go_at_call 61; (with_reducible refine (HG.out _ _ (by first | rfl | simp) _).mono ?_); rintro e w1 ⟨rfl, hS1⟩; have hT1 : Since wa w1 := (by (repeat (first | with_reducible (exact Since.refl _) | with_reducible assumption | with_reducible (refine Since.drew ?_) | with_reducible (refine Since.drewN ?_ _) | with_reducible (refine Since.alloc ?_ _) | (with_reducible (refine Since.setCell ?_ ?_ _); rotate_left; focus (first | (simp; done) | (simp; omega) | omega)) | (with_reducible (refine Since.trans ?_ (by with_reducible assumption)))))); have hM1 := hMa.since hT1; have hc1 := (hT1.1 _ _ hla).trans hca; have hl1 := hT1.2.2.1 _ hla; have hT2 := hSa.trans hT1; have hL1 := hLa.since hT1)
        clear hS1 hT1 hMa hca hla hSa hLa l1 l2 l3 l4 l5
        obtain ⟨l1, l2, l3, l4, l5⟩ := id hL1
        go_cut [] (fun wx => ∃ m', m' ≤ 2 * j + 1 ∧ MapOf wx bm m' (endsP (L.take j) ++ [(pxI s.ax, pxI s.ay)]) ∧ wx.cell? ⟨bv, 0, none⟩ = some (.map (some bm)) ∧ bv < wx.heap.size ∧ Since w wx ∧ LnAt wx sb s)
        case first =>
          go_region_with (go_at_call 30; (with_reducible refine (HO1.out _).mono ?_); rintro e w2 ⟨rfl, hS2⟩; have hU2 : Since w1 w2 := (by (repeat (first | with_reducible (exact Since.refl _) | with_reducible assumption | with_reducible (refine Since.drew ?_) | with_reducible (refine Since.drewN ?_ _) | with_reducible (refine Since.alloc ?_ _) | (with_reducible (refine Since.setCell ?_ ?_ _); rotate_left; focus (first | (simp; done) | (simp; omega) | omega)) | (with_reducible (refine Since.trans ?_ (by with_reducible assumption)))))); have hM2 := hM1.since hU2; have hc2 := (hU2.1 _ _ hl1).trans hc1; have hl2 := hU2.2.2.1 _ hl1; obtain ⟨w3, hrun, hM3, hg3⟩ := hM2.update (t := 109) lawPt Tryz.underlying109 (by unfold maxLen; omega) HK1.out unitElem_mk)
          all_goals go_wp2_with fail
          all_goals go_meet
          all_goals exact ⟨m + 1, by omega, MapOf.put hM3, cell_grown hc2 hl2 hg3 (fun e => hne (by injection e)), Nat.lt_of_lt_of_le hl2 hg3.size, since_grown (hT2.trans hU2) hg3 (fun k hk => by have := HBM.out; injection hk with hk; omega), (hL1.since hU2).grown hg3 hbs⟩
        clear hM1 hc1 hl1 hT2 hL1 l1 l2 l3 l4 l5 HO1 HK1 HG
        obtain ⟨m1, hm1, hM1, hc1, hl1, hT2, hL1⟩ := hcut
        obtain ⟨l1, l2, l3, l4, l5⟩ := id hL1
        have hET := endsP_take HS.out
        have hGT : ∀ l ∈ L.take (j + 1), lnG l = true := fun l h => by
          rw [List.take_add_one, HS.out] at h
          rcases List.mem_append.1 h with h | h
          · exact hG l h
          · have h : l = s := by simpa using h
            subst h
            exact HGS.out
        have HET := Lib.hid hET; have HGT := Lib.hid hGT
        clear hET hGT hG
        go_upto_region 10 with fail
        go_region_with (go_at_call 30; (with_reducible refine (HO2.out _).mono ?_); rintro e w2 ⟨rfl, hS2⟩; have hU2 : Since wc w2 := (by (repeat (first | with_reducible (exact Since.refl _) | with_reducible assumption | with_reducible (refine Since.drew ?_) | with_reducible (refine Since.drewN ?_ _) | with_reducible (refine Since.alloc ?_ _) | (with_reducible (refine Since.setCell ?_ ?_ _); rotate_left; focus (first | (simp; done) | (simp; omega) | omega)) | (with_reducible (refine Since.trans ?_ (by with_reducible assumption)))))); have hM2 := hM1.since hU2; have hc2 := (hU2.1 _ _ hl1).trans hc1; have hl2 := hU2.2.2.1 _ hl1; obtain ⟨w3, hrun, hM3, hg3⟩ := hM2.update (t := 109) lawPt Tryz.underlying109 (by unfold maxLen; omega) HK2.out unitElem_mk)
        all_goals (
          clear hrun
          go_wp2_with fail
          go_roundw
          case rel => exact ⟨j + 1, m1 + 1, by omega, by go_num, by omega, by rw [HET.out]; exact MapOf.put hM3, HGT.out, cell_grown hc2 hl2 hg3 (fun e => hne (by injection e)), Nat.lt_of_lt_of_le hl2 hg3.size, since_grown (hT2.trans hU2) hg3 (fun k hk => by have := HBM.out; injection hk with hk; omega)⟩
          case measure => (simp only [intOf]; omega))
    · obtain rfl : j = n := by omega
      have hall : endsP (L.take j) = endsP L := by rw [List.take_of_length_le (by rw [← HN.out]; exact Nat.le_refl _)]
      have hGL : ∀ l ∈ L, lnG l = true := fun l h => hG l (by rw [List.take_of_length_le (by rw [← HN.out]; exact Nat.le_refl _)]; exact h)
      rw [hall] at hM
      have hI0 : HotI w bm bv L [] wr := ⟨m, by simp; omega, by show MapOf wr bm m (endsP L ++ metsP []); rw [show metsP [] = [] from rfl, List.append_nil]; exact hM, hc, hl, hS⟩
      have hRr := HR.out.on hS
      have hbm := HBM.out
      have hsh : ∀ s ∈ L, ∀ t ∈ L, (meetCp s t).k = 1 → ShOK (meetCp s t).x (meetCp s t).d ∧ ShOK (meetCp s t).y (meetCp s t).d := fun s hs t ht hk => by
        have e := (meet_k_apart hk).2
        rw [e] at hk ⊢
        exact meet_sh s t (hGL s hs) (hGL t ht) hk
      have hP := px_pairs A c L 63 #[.pointer (some ⟨bv, 0, none⟩)] (HotI w bm bv L) wr hRr (by rw [← HN.out]; exact hL) (enters_of Tryz.func63 (by kernel_rfl) rfl) hI0 (fun d w1 w2 ⟨n', h1, h2, h3, h4, h5⟩ hs => ⟨n', h1, h2.since hs, (hs.1 _ _ h4).trans h3, hs.2.2.1 _ h4, h5.trans hs⟩) (hot_step w bm bv (by omega) hne L HWF.out hsh)
      rw [← HN.out] at hP
      have HP := Lib.hid hP; have HGL := Lib.hid hGL
      clear hP hGL hsh hRr hI0 hall hM hG hbm
      have hjn' : ¬ (j : Int) < j := by omega
      go_upto_region 13 with (go_at_call 62; (with_reducible refine HP.out.mono ?_); rintro e w2 ⟨⟨v2, rfl⟩, L', hp, hs, ⟨m2, hm2, hM2, hc2, hl2, hS2⟩, hKK⟩)
      have hmem : ∀ e, e ∈ endsP L ++ metsP (prsOf L') ↔ IsHot L e := fun e => hot_iff hp hs e
      have hlen : (endsP L ++ metsP (prsOf L')).length ≤ 100000000 := by
        have h1 := prs_len L' 4096 (by rw [hp.length_eq, ← HN.out]; exact hL)
        rw [hp.length_eq, ← HN.out] at h1
        have h2 := metsP_len (prsOf L')
        rw [List.length_append, endsP_len, ← HN.out]
        omega
      have hW : WfL (endsP L ++ metsP (prsOf L')) := hot_wf HGL.out hmem
      have HMEM := Lib.hid hmem; have HW := Lib.hid hW
      clear hmem hW hp hs hKK HP
      obtain ⟨M, hMM⟩ : ∃ M, M = endsP L ++ metsP (prsOf L') := ⟨_, rfl⟩
      rw [← hMM] at hM2 hlen HMEM HW
      clear hMM hm2
      have hsz : Maps.size (setOf (H := Unit) (.agg []) (kL M)) ≤ 100000000 := Nat.le_trans (size_le (kL_key HW.out)) (by unfold kL; simpa using hlen)
      generalize hSZ : Maps.size (setOf (H := Unit) (.agg []) (kL M)) = sz at *
      have HSZ := Lib.hid hSZ
      clear hSZ
      go_upto_region 14 with (first | (at_len; refine wpList_len_own _ rfl _ 109 rfl 23 111 Tryz.underlying109 (unitElem (H := Unit)) bm m2 _ rfl hM2 ?_; rw [HSZ.out]) | (obtain ⟨i0, z0, hi0, hz0, hz1, hz2, hz3⟩ := infoPt; refine wpList_make_own _ rfl _ _ 28 rfl w.heap.size 23 i0 z0 2 Tryz.underlying28 hi0 hz0 hz1 _ _ _ sz rfl rfl rfl (by rw [hz2]; omega) (by unfold maxLen; omega) hS2.below.size ?_; clear hi0 hz0 hz1 hz2 hz3; intro w3 hO3 hg3))
      have hT3 : Since w2 w3 := since_grown (Since.refl _) hg3 (fun k hk => by cases hk)
      have hM3 := hM2.since hT3
      have hc3 := (hT3.1 _ _ hl2).trans hc2
      have hS3 := hS2.trans hT3
      have hl3 := hT3.2.2.1 _ hl2
      clear hM2 hc2 hS2 hT3 hg3
      go_wp2_with (first | (at_range; refine wpList_range_own _ rfl _ 109 rfl 23 111 lawPt Tryz.underlying109 (unitElem (H := Unit)) bm m2 _ rfl hM3 ?_; intro v9 hrg hgr9 hsz9))
      go_frame
      have hT9 : Since w3 v9 := since_grown (Since.refl _) hgr9 (fun k hk => by cases hk)
      have hO9 : OwnG 23 2 ptL v9 w.heap.size (.slice (some ⟨w2.heap.size, 0, none⟩) 0 sz) [] := OwnG.since (show OwnG 23 2 ptL w3 w.heap.size (.slice (some ⟨w2.heap.size, 0, none⟩) 0 sz) [] from hO3) hT9
      have hS9 := hS3.trans hT9
      have hbr : w.heap.size ≤ w3.heap.size := hS3.below.size
      clear hgr9 hsz9 hM3 hc3 hl3 hO3 hT9 hS3
      generalize w3.heap.size = r at *
      generalize w2.heap.size = g0 at *
      have HH0 := Lib.hid (hotH_start HW.out)
      have hml : M.length ≤ 100000000 := hlen
      clear hlen hsz HSZ
      go_loopw [7] (fun y wv => ∃ (left : Lit → Bool) (cnt : Nat) (H : List Pq), wv.ranges Tryz.prog 23 (unitElem (H := Unit)) bm r m2 (setOf (.agg []) (kL M)) left cnt ∧ OwnG 23 2 ptL wv w.heap.size y H ∧ Since w wv ∧ HotH M left H) (fun _ wv => wv.rangeLeft bm r)
      case atStart => exact ⟨_, _, [], hrg, hO9, hS9, HH0.out⟩
      case round =>
        obtain ⟨left, cnt, H, hrg, hO, hS, hH⟩ := hrel
        have hHl := hH.len
        have HH := Lib.hid hH
        clear hH hO9 hS9 HH0
        go_wp2_with (first | (at_next; refine wpList_next_ranges _ rfl _ rfl 23 lawPt (unitElem (H := Unit)) (fun x : Pq => Pt x.x x.y) (fun _ : Unit => .agg #[]) invKp invV bm r m2 _ _ _ rfl hrg ?_ ?_))
        · intro hc0 hl0
          have hend := HH.out.done hl0 HMEM.out
          have HEND := Lib.hid hend
          clear hend hc0 hl0 hrg HH
          go_wp2_with (go_at_call 57; (with_reducible refine (px_sortp_any w _ w.heap.size _ H hS (Nat.le_refl _) hO (by omega)).mono ?_); rintro e w6 ⟨⟨u6, rfl⟩, L2, hp2, hs2, hO6, hS6⟩)
          go_ret2
          exact ⟨hS6, .inr (.inr ⟨by rw [← HN.out]; exact hL, HGL.out, _, L2, rfl, hO6, strict_of hs2 (hp2.nodup_iff.2 HEND.out.1), fun p => hp2.mem_iff.trans (HEND.out.2 p)⟩)⟩
        · intro p kl y1 y2 w5 cnt5 hkey hlk hv hat hrg5 hlt hgr5 hsz5 hen
          obtain ⟨x0, y0, ek, rfl, wx, wy⟩ := keyOf_pt_inv hkey
          obtain ⟨rfl, rfl⟩ : x0 = p.x ∧ y0 = p.y := by unfold Pt at ek; simp at ek; exact ⟨ek.1.symm, ek.2.symm⟩
          have hin : (p.x, p.y) ∈ M := (has_kL HW.out wx wy).1 (Maps.has_true_of_atKey hat)
          have HH5 := Lib.hid (HH.out.step HW.out hin hlk)
          have hO5 := hO.grown hgr5 (fun q hq e => (hO.ne_iter hq hrg) (by injection e))
          have hS5 : Since w w5 := since_grown hS hgr5 (fun k hk => by injection hk with hk; omega)
          have HLT : Hid (w5.rangeLeft bm r < wr.rangeLeft bm r) := Lib.hid (by rw [hrg5.left_eq, hrg.left_eq]; exact hlt)
          have HRG := Lib.hid hrg5
          unfold Pt at hen
          have hr5 : r < w5.heap.size := hrg5.lt
          clear ek hkey hlk hv hat hrg5 hlt hgr5 hsz5 hrg hO hS HH wx wy hin
          go_upto_region 17 with fail
          refine wp_named fun wa hwa => ?_
          have hTa : Since w5 wa := by subst hwa; exact (Since.refl _).alloc _
          have hPa : PtAt wa w5.heap.size p.x p.y := by subst hwa; exact pt_new w5 _ rfl p.x p.y _
          have hRa := Lib.hid (HRG.out.kept (grown_of_since hTa) (by simp) (by simp))
          have hOa := Lib.hid (hO5.since hTa)
          have hSa := hS5.trans hTa
          clear hwa hTa hO5 hS5
          obtain ⟨p1, p2, p3⟩ := id hPa
          go_wp2_with (at_builtin; refine wpList_append_g rfl _ _ 28 23 rfl (by omega) ptL_len ptL_one 16 Tryz.underlying28 infoPt w.heap.size _ H rfl (OwnG.alloc (hOa.out) _) _ _ 1 [p] rfl (pt_one wa _ rfl _ p) (by simp only [List.length_cons, List.length_nil]; omega) (by simp only [List.length_cons, List.length_nil, maxLen]; omega) (by have := hSa.below.size; simp; omega) ?_; intro v7 w7 hO7 hg7 hb7)
          have hRg := (hRa.out.alloc (.cells #[.int .i64 p.x, .int .i64 p.y] 23)).kept hg7 (fun e => hOa.out.ne_map e.symm hRa.out.owns rfl) (fun e => hOa.out.ne_iter e.symm hRa.out rfl)
          have hS7 : Since w w7 := since_grown (hSa.alloc _) hg7 (fun k e => (hb7 k e).1)
          have hH7 := HH5.out
          go_roundw
          case rel => exact ⟨_, _, H ++ [p], hRg, hO7, hS7, hH7⟩
          case measure =>
            rw [hRg.left_eq, ← HRG.out.left_eq]
            exact HLT.out
theorem px_hot (A : Option Addr) (c : Nat) (L : List Ln) (w : World) (hr : RdG 4 lnE w w.heap.size A L) (hwf : ∀ l ∈ L, l.wf) :
    Calls Tryz.prog 36 #[.slice A L.length c] w fun e w' => HotOut L w e w' := by
  by_cases h : L.length ≤ 4096
  · exact px_hot_few A c L w hr h hwf
  · exact px_hot_many A c L w (by omega)
end Go.Proofs.YtcfghkphkmoikaaGreat
