/-
  Texts of this seat, put together: each with its own head.
-/
import Derived.Test.YtcfghkphkmoikaaGreatPxN
import Derived.Test.YtcfghkphkmoikaaGreatCrV
import Derived.Test.YtcfghkphkmoikaaGreatMqE

/-
  Layer 16: what 'Hot' does with a pair (Hot$1), walked.
-/
namespace Go.Proofs.YtcfghkphkmoikaaGreat
set_option maxRecDepth 100000
open Go.RowKit Go.Maps
open Go.Sort
set_option linter.unusedVariables false

/-- The pixel in which two lines meet, if they do in one. -/
def metP (s t : Ln) : List (Int × Int) := if (meetCp s t).k = 1 then [(pixX (meetCp s t), pixY (meetCp s t))] else []
theorem KC.grown {a b c : World} (h : KC a b) {g : Nat} (hg : b.grownBy c (some g)) (hm : ∀ cs t z, b.heap[g]? ≠ some (Obj.cells cs t z)) : KC a c :=
  h.trans ⟨hg.size, fun x cs t z hx => by
    have hlt : x < b.heap.size := by
      rcases Nat.lt_or_ge x b.heap.size with k | k
      · exact k
      · rw [Array.getElem?_eq_none k] at hx; cases hx
    rw [hg.block x hlt (fun e => by injection e with e; subst e; exact hm cs t z hx)]; exact hx⟩
set_option maxRecDepth 100000 in
set_option maxHeartbeats 16000000 in
theorem px_hot1 (s t : Ln) (hs : s.wf) (ht : t.wf) (hsh : (meetCp s t).k = 1 → ShOK (meetCp s t).x (meetCp s t).d ∧ ShOK (meetCp s t).y (meetCp s t).d) (bv bm n : Nat) (M : List (Int × Int)) (w : World)
    (hv : w.cell? ⟨bv, 0, none⟩ = some (.map (some bm))) (hvl : bv < w.heap.size) (hM : MapOf w bm n M) (hn : n < 100000000) :
    Calls Tryz.prog 63 #[s.v, t.v, .pointer (some ⟨bv, 0, none⟩)] w fun e w' => (∃ v, e = .returned v) ∧ ∃ n', n' ≤ n + 1 ∧ MapOf w' bm n' (M ++ metP s t) ∧ (∃ wy, Since w wy ∧ (w' = wy ∨ wy.grownBy w' (some bm))) := by
  have hme := fun w => cr_meet s t hs ht w
  have hpx := fun w => cr_pixel (meetCp s t) hsh w
  unfold metP
  generalize meetCp s t = p at *
  generalize meetE s t = E at *
  have hN := fun w b hb t' => ln_new w b hb s t'
  have hN2 := fun w b hb t' => ln_new w b hb t t'
  have hCr := fun w b hb t' => crow w b hb t' p
  have hX1 : -131073 ≤ pixX p ∧ pixX p ≤ 131073 := by
    unfold pixX; split
    · rename_i h; exact mid_in (hsh h).1
    · omega
  have hY1 : -131073 ≤ pixY p ∧ pixY p ≤ 131073 := by
    unfold pixY; split
    · rename_i h; exact mid_in (hsh h).2
    · omega
  generalize hX : pixX p = X at *
  generalize hY : pixY p = Y at *
  have hk : keyOf Tryz.prog 23 (.agg #[.int .i64 X, .int .i64 Y]) = some (kP X Y) := keyOf_pt (wf_of64 (by unfold In64; omega)) (wf_of64 (by unfold In64; omega))
  unfold Ln.v Cp.v Pt at *
  have HME := Lib.hid hme; have HPX := Lib.hid hpx; have HN := Lib.hid hN; have HN2 := Lib.hid hN2; have HCR := Lib.hid hCr; have HK := Lib.hid hk
  clear hme hpx hN hN2 hCr hk hX hY hsh hX1 hY1
  have hbl : bv < w.heap.size := hvl
  obtain ⟨Z, hZ⟩ : ∃ Z, Z = (if p.k = 1 then [(X, Y)] else []) := ⟨_, rfl⟩
  rw [← hZ]
  have HZ := Lib.hid hZ
  clear hZ
  go_enter Tryz.func63, Tryz.ntmps63
  go_upto_region 3 with (first | (go_at_call 64; (with_reducible refine (HME.out _).mono ?_); rintro e w1 ⟨rfl, hS1⟩; have hT1 : Since w w1 := (by (repeat (first | with_reducible (exact Since.refl _) | with_reducible assumption | with_reducible (refine Since.drew ?_) | with_reducible (refine Since.drewN ?_ _) | with_reducible (refine Since.alloc ?_ _) | (with_reducible (refine Since.setCell ?_ ?_ _); rotate_left; focus (first | (simp; done) | (simp; omega) | omega)) | (with_reducible (refine Since.trans ?_ (by with_reducible assumption)))))); have rC := HCR.out w1 w1.heap.size rfl) | (go_at_call 65; (with_reducible refine (HPX.out _).mono ?_); rintro e w2 ⟨rfl, hS2⟩; have hT2 : Since w w2 := (by (repeat (first | with_reducible (exact Since.refl _) | with_reducible assumption | with_reducible (refine Since.drew ?_) | with_reducible (refine Since.drewN ?_ _) | with_reducible (refine Since.alloc ?_ _) | (with_reducible (refine Since.setCell ?_ ?_ _); rotate_left; focus (first | (simp; done) | (simp; omega) | omega)) | (with_reducible (refine Since.trans ?_ (by with_reducible assumption))))))))
  refine wp_named fun wa hwa => ?_
  have hTa : Since w wa := by subst hwa; exact hT2.alloc _
  have hPa : PtAt wa w2.heap.size X Y := by subst hwa; exact pt_new w2 _ rfl X Y _
  have hva : wa.cell? ⟨bv, 0, none⟩ = some (.map (some bm)) := (hTa.1 _ _ hvl).trans hv
  have hla : bv < wa.heap.size := hTa.2.2.1 _ hvl
  have hMa := hM.since hTa
  clear hwa rC hT1 hS1 hS2 hT2 hM hv hvl hbl HME HPX HN HN2 HCR hs ht
  obtain ⟨a1, a2, a3⟩ := id hPa
  by_cases hk1 : p.k = 1
  · have d1 : (p.k == 1) = true := by simp [hk1]
    have hz : Z = [(X, Y)] := by rw [HZ.out, if_pos hk1]
    subst hz
    clear hk1 HZ
    go_wp2_with (at_mapUpdate; refine wpList_mapUpdate_own _ rfl _ _ _ 109 rfl 23 111 lawPt Tryz.underlying109 (unitElem (H := Unit)) bm n _ rfl hMa (by unfold maxLen; omega) _ _ _ rfl rfl (HK.out) _ [] unitElem_mk ?_; intro v1 hown hgr)
    go_end0
    exact ⟨⟨_, rfl⟩, n + 1, Nat.le_refl _, by show World.ownsMap _ _ _ _ _ _ (setOf (.agg []) (kL (M ++ [(X, Y)]))); rw [kL_snoc]; exact hown, wa, hTa, .inr hgr⟩
  · have d1 : (p.k == 1) = false := by simp [hk1]
    have hz : Z = [] := by rw [HZ.out, if_neg hk1]
    subst hz
    clear hk1 HZ
    go_wp2_with fail
    go_end0
    exact ⟨⟨_, rfl⟩, n, Nat.le_succ _, by rw [List.append_nil]; exact hMa, wa, hTa, .inl rfl⟩
end Go.Proofs.YtcfghkphkmoikaaGreat

/-
  Layer 16: which pixels are hot, in lists: no walk.
-/
namespace Go.Proofs.YtcfghkphkmoikaaGreat
set_option maxRecDepth 100000
open Go.RowKit Go.Maps
open Go.Sort
set_option linter.unusedVariables false

theorem prAt_mem {s : Ln} : ∀ {R : List Ln} {p : Ln × Ln}, p ∈ prAt s R → p.1 = s ∧ p.2 ∈ R
  | [], p, h => by cases h
  | t :: r, p, h => by
    unfold prAt at h
    split at h
    · split at h
      · rcases List.mem_cons.1 h with rfl | h
        · exact ⟨rfl, by simp⟩
        · have := prAt_mem h; exact ⟨this.1, List.mem_cons_of_mem _ this.2⟩
      · have := prAt_mem h; exact ⟨this.1, List.mem_cons_of_mem _ this.2⟩
    · cases h
theorem prs_mem : ∀ {L : List Ln} {p : Ln × Ln}, p ∈ prsOf L → p.1 ∈ L ∧ p.2 ∈ L
  | [], p, h => by cases h
  | s :: r, p, h => by
    unfold prsOf at h
    rcases List.mem_append.1 h with h | h
    · have := prAt_mem h
      exact ⟨by rw [this.1]; simp, List.mem_cons_of_mem _ this.2⟩
    · have := prs_mem h
      exact ⟨List.mem_cons_of_mem _ this.1, List.mem_cons_of_mem _ this.2⟩
theorem prAt_has {s t : Ln} : ∀ {R : List Ln}, SortedL (Go.Proofs.ltOf cmpL) R → t ∈ R → prL s t = true → prY s t = true → (s, t) ∈ prAt s R
  | [], _, ht, _, _ => by cases ht
  | u :: r, hs, ht, hl, hy => by
    have h2 := List.pairwise_cons.1 hs
    have hu : prL s u = true := by
      rcases List.mem_cons.1 ht with rfl | ht
      · exact hl
      · have := h2.1 t ht
        rw [cmpL_lt] at this
        unfold prL at hl ⊢
        simp at this hl ⊢
        omega
    unfold prAt
    rw [if_pos hu]
    rcases List.mem_cons.1 ht with rfl | ht
    · rw [if_pos hy]; simp
    · have := prAt_has h2.2 ht hl hy
      split
      · exact List.mem_cons_of_mem _ this
      · exact this
theorem apart_pr {u v : Ln} (h : aprtL u v = false) : prL u v = true ∧ prY u v = true := by
  unfold aprtL aprt at h
  unfold prL prY
  simp only [Bool.or_eq_false_iff, decide_eq_false_iff_not] at h
  simp only [Bool.and_eq_true, decide_eq_true_eq]
  omega
theorem prs_has {u v : Ln} (ha : aprtL u v = false) : ∀ {L : List Ln}, SortedL (Go.Proofs.ltOf cmpL) L → u ∈ L → v ∈ L → u = v ∨ (u, v) ∈ prsOf L ∨ (v, u) ∈ prsOf L
  | [], _, hu, _ => by cases hu
  | a :: r, hs, hu, hv => by
    have h2 := List.pairwise_cons.1 hs
    have hb : aprtL v u = false := by rw [aprtL_swap]; exact ha
    unfold prsOf
    rcases List.mem_cons.1 hu with hu1 | hu1 <;> rcases List.mem_cons.1 hv with hv1 | hv1
    · exact .inl (hu1.trans hv1.symm)
    · subst hu1
      exact .inr (.inl (List.mem_append_left _ (prAt_has h2.2 hv1 (apart_pr ha).1 (apart_pr ha).2)))
    · subst hv1
      exact .inr (.inr (List.mem_append_left _ (prAt_has h2.2 hu1 (apart_pr hb).1 (apart_pr hb).2)))
    · rcases prs_has ha h2.2 hu1 hv1 with h | h | h
      · exact .inl h
      · exact .inr (.inl (List.mem_append_right _ h))
      · exact .inr (.inr (List.mem_append_right _ h))

def pxA (l : Ln) : Int × Int := (pxI l.ax, pxI l.ay)
def pxB (l : Ln) : Int × Int := (pxI l.bx, pxI l.bz)
def endsP (L : List Ln) : List (Int × Int) := L.flatMap fun l => [pxA l, pxB l]
def metsP (Q : List (Ln × Ln)) : List (Int × Int) := Q.flatMap fun p => metP p.1 p.2
/-- Is a pixel hot? -/
def IsHot (L : List Ln) (e : Int × Int) : Prop := (∃ l ∈ L, e = pxA l ∨ e = pxB l) ∨ ∃ s ∈ L, ∃ t ∈ L, (meetCp s t).k = 1 ∧ e = (pixX (meetCp s t), pixY (meetCp s t))
theorem mem_endsP {L : List Ln} {e : Int × Int} : e ∈ endsP L ↔ ∃ l ∈ L, e = pxA l ∨ e = pxB l := by
  unfold endsP
  rw [List.mem_flatMap]
  constructor <;> rintro ⟨l, h1, h2⟩ <;> exact ⟨l, h1, by simpa using h2⟩
theorem mem_metsP {Q : List (Ln × Ln)} {e : Int × Int} : e ∈ metsP Q ↔ ∃ p ∈ Q, (meetCp p.1 p.2).k = 1 ∧ e = (pixX (meetCp p.1 p.2), pixY (meetCp p.1 p.2)) := by
  unfold metsP
  rw [List.mem_flatMap]
  constructor <;> rintro ⟨l, h1, h2⟩ <;> refine ⟨l, h1, ?_⟩
  · unfold metP at h2
    split at h2
    · exact ⟨‹_›, by simpa using h2⟩
    · cases h2
  · unfold metP
    rw [if_pos h2.1, h2.2]
    simp
theorem mid_one (n : Int) : midI n 1 = pxI n := by unfold midI pxI; rw [Int.mul_one, Int.mul_one]
theorem meet_k_apart {s t : Ln} (h : (meetCp s t).k = 1) : aprtL s t = false ∧ meetCp s t = meetG s t := by
  unfold meetCp at *
  split at h
  · rename_i hg
    refine ⟨?_, if_pos hg⟩
    unfold meetG at h
    cases ha : aprtL s t
    · rfl
    · rw [ha, if_pos rfl] at h; cases h
  · cases h
theorem meet_self {s : Ln} (h : (meetCp s s).k = 1) : (pixX (meetCp s s), pixY (meetCp s s)) = pxA s ∨ (pixX (meetCp s s), pixY (meetCp s s)) = pxB s := by
  obtain ⟨ha, he⟩ := meet_k_apart h
  rw [he] at h ⊢
  have h0 : cC s s = 0 := by unfold cC crossI; grind
  unfold meetG at h ⊢
  rw [ha, if_neg (by simp), if_pos h0] at h ⊢
  rcases touch_cases (ends s s) with ⟨_, e⟩ | ⟨x, hx, e⟩ | e
  · rw [e] at h; cases h
  · rw [e]
    unfold pixX pixY
    simp only [if_true, mid_one]
    rcases mem_ends.1 hx with ⟨rfl, _⟩ | ⟨rfl, _⟩ | ⟨rfl, _⟩ | ⟨rfl, _⟩
    · exact .inl rfl
    · exact .inr rfl
    · exact .inl rfl
    · exact .inr rfl
  · rw [e] at h; cases h
theorem hot_iff {L L' : List Ln} (hp : List.Perm L' L) (hs : SortedL (Go.Proofs.ltOf cmpL) L') (e : Int × Int) : e ∈ endsP L ++ metsP (prsOf L') ↔ IsHot L e := by
  rw [List.mem_append, mem_endsP, mem_metsP]
  constructor
  · rintro (h | ⟨p, h1, h2, h3⟩)
    · exact .inl h
    · have := prs_mem h1
      exact .inr ⟨p.1, hp.mem_iff.1 this.1, p.2, hp.mem_iff.1 this.2, h2, h3⟩
  · rintro (h | ⟨s, h1, t, h2, h3, h4⟩)
    · exact .inl h
    · rcases prs_has (meet_k_apart h3).1 hs (hp.mem_iff.2 h1) (hp.mem_iff.2 h2) with h | h | h
      · subst h
        refine .inl ⟨s, h1, ?_⟩
        rw [h4]
        exact meet_self h3
      · exact .inr ⟨_, h, h3, h4⟩
      · refine .inr ⟨_, h, ?_, ?_⟩
        · show (meetCp t s).k = 1
          rw [meetCp_swap]; exact h3
        · show e = (pixX (meetCp t s), pixY (meetCp t s))
          rw [meetCp_swap]; exact h4
def LtP (p q : Pq) : Prop := p.x < q.x ∨ (p.x = q.x ∧ p.y < q.y)
theorem ltP_irr {p : Pq} (h : LtP p p) : False := by unfold LtP at h; omega
theorem ltP_tr {p q r : Pq} (h : LtP p q) (k : LtP q r) : LtP p r := by unfold LtP at *; omega
theorem ltP_tri (p q : Pq) : LtP p q ∨ p = q ∨ LtP q p := by
  unfold LtP
  obtain ⟨a, b⟩ := p
  obtain ⟨c, d⟩ := q
  simp only [Pq.mk.injEq]
  omega
theorem strict_same : ∀ {L M : List Pq}, L.Pairwise LtP → M.Pairwise LtP → (∀ x, x ∈ L ↔ x ∈ M) → L = M
  | [], [], _, _, _ => rfl
  | [], m :: M, _, _, h => by have := (h m).2 (by simp); cases this
  | l :: L, [], _, _, h => by have := (h l).1 (by simp); cases this
  | l :: L, m :: M, hl, hm, h => by
    have l2 := List.pairwise_cons.1 hl
    have m2 := List.pairwise_cons.1 hm
    have e : l = m := by
      rcases List.mem_cons.1 ((h l).1 (by simp)) with e | e
      · exact e
      · rcases List.mem_cons.1 ((h m).2 (by simp)) with e' | e'
        · exact e'.symm
        · exact (ltP_irr (ltP_tr (m2.1 l e) (l2.1 m e'))).elim
    subst e
    rw [strict_same l2.2 m2.2 fun x => ?_]
    constructor
    · intro hx
      rcases List.mem_cons.1 ((h x).1 (List.mem_cons_of_mem _ hx)) with e | e
      · subst e; exact (ltP_irr (l2.1 x hx)).elim
      · exact e
    · intro hx
      rcases List.mem_cons.1 ((h x).2 (List.mem_cons_of_mem _ hx)) with e | e
      · subst e; exact (ltP_irr (m2.1 x hx)).elim
      · exact e
/-- Sorted, and no two alike: strictly. -/
theorem strict_of {L : List Pq} (h : SortedL (Go.Proofs.ltOf cmpP) L) (hn : L.Nodup) : L.Pairwise LtP := by
  have h2 := List.pairwise_and_iff.2 ⟨h, hn⟩
  refine h2.imp ?_
  rintro a b ⟨h1, h3⟩
  rw [cmpP_lt] at h1
  simp only [decide_eq_false_iff_not] at h1
  rcases ltP_tri a b with k | k | k
  · exact k
  · exact absurd k h3
  · exact absurd k h1
/-- The hot pixels of lines. -/
def HotL (L : List Ln) (H : List Pq) : Prop := H.Pairwise LtP ∧ ∀ p : Pq, p ∈ H ↔ IsHot L (p.x, p.y)
theorem hotL_same {L : List Ln} {H H' : List Pq} (h : HotL L H) (k : HotL L H') : H = H' := strict_same h.1 k.1 fun x => (h.2 x).trans (k.2 x).symm
end Go.Proofs.YtcfghkphkmoikaaGreat

/-
  Each hot pixel is hit by a line (pure: no walk).
-/
namespace Go.Proofs.YtcfghkphkmoikaaGreat
set_option maxRecDepth 100000
open Go.RowKit
set_option linter.unusedVariables false

theorem mid_row {a b n c : Int} (hc : 0 < c) : rowS a b (midI (a * c + (b - a) * n) c) n c := by
  unfold rowS midI
  have e : a * c + (b - a) * n = a * c + n * (b - a) := by rw [Int.mul_comm (b - a)]
  rw [e]
  generalize a * c + n * (b - a) = X
  have h1 := Int.ediv_mul_le (X + 32 * c) (b := 64 * c) (by omega)
  have h2 := Int.lt_ediv_add_one_mul_self (X + 32 * c) (b := 64 * c) (by omega)
  generalize (X + 32 * c) / (64 * c) = q at *
  have e1 : q * (64 * c) = 64 * q * c := by grind
  have e2 : (q + 1) * (64 * c) = 64 * q * c + 64 * c := by grind
  have e3 : (64 * q - 32) * c = 64 * q * c - 32 * c := by grind
  have e4 : (64 * q + 32) * c = 64 * q * c + 32 * c := by grind
  omega
theorem hit_start (l : Ln) : HitG l.ax l.ay l.bx l.bz (pxI l.ax) (pxI l.ay) := hit_at (p := 0) (q := 1) (by omega) (by omega) (by omega) (by omega) (by omega)
theorem hit_stop (l : Ln) : HitG l.ax l.ay l.bx l.bz (pxI l.bx) (pxI l.bz) := hit_at (p := 1) (q := 1) (by omega) (by omega) (by omega) (by omega) (by omega)
theorem cross_hit (s t : Ln) (h : cC s t ≠ 0) (hk : (crossCp s t).k = 1) : HitG s.ax s.ay s.bx s.bz (midI (crossCp s t).x (crossCp s t).d) (midI (crossCp s t).y (crossCp s t).d) := by
  unfold crossCp at *
  by_cases h0 : cC s t < 0
  · rw [if_pos h0] at *
    rcases crossPos_k s (-nC s t) (-mC s t) (-cC s t) with ⟨hi, e⟩ | ⟨_, e⟩
    · rw [e]
      have := in01_iff.1 hi
      exact ⟨-nC s t, -cC s t, by omega, by omega, by omega, mid_row (by omega), mid_row (by omega)⟩
    · rw [e] at hk; cases hk
  · rw [if_neg h0] at *
    rcases crossPos_k s (nC s t) (mC s t) (cC s t) with ⟨hi, e⟩ | ⟨_, e⟩
    · rw [e]
      have := in01_iff.1 hi
      exact ⟨nC s t, cC s t, by omega, by omega, by omega, mid_row (by omega), mid_row (by omega)⟩
    · rw [e] at hk; cases hk
/-- Each hot pixel is hit. -/
theorem hot_hit {L : List Ln} {e : Int × Int} (h : IsHot L e) : ∃ l ∈ L, HitG l.ax l.ay l.bx l.bz e.1 e.2 := by
  rcases h with ⟨l, hl, h⟩ | ⟨s, hs, t, ht, hk, h⟩
  · rcases h with rfl | rfl
    · exact ⟨l, hl, hit_start l⟩
    · exact ⟨l, hl, hit_stop l⟩
  · obtain ⟨ha, he⟩ := meet_k_apart hk
    rw [he] at hk h
    have hx : pixX (meetG s t) = midI (meetG s t).x (meetG s t).d := if_pos hk
    have hy : pixY (meetG s t) = midI (meetG s t).y (meetG s t).d := if_pos hk
    rw [hx, hy] at h
    unfold meetG at h hk
    rw [ha, if_neg (by simp)] at h hk
    by_cases h0 : cC s t = 0
    · rw [if_pos h0] at h hk
      rcases touch_cases (ends s t) with ⟨_, e'⟩ | ⟨x, hx', e'⟩ | e'
      · rw [e'] at hk; cases hk
      · rw [e'] at h
        simp only [mid_one] at h
        rw [h]
        rcases mem_ends.1 hx' with ⟨rfl, _⟩ | ⟨rfl, _⟩ | ⟨rfl, _⟩ | ⟨rfl, _⟩
        · exact ⟨s, hs, hit_start s⟩
        · exact ⟨s, hs, hit_stop s⟩
        · exact ⟨t, ht, hit_start t⟩
        · exact ⟨t, ht, hit_stop t⟩
      · rw [e'] at hk; cases hk
    · rw [if_neg h0] at h hk
      rw [h]
      exact ⟨s, hs, cross_hit s t h0 hk⟩
end Go.Proofs.YtcfghkphkmoikaaGreat

/-
  Layer 16: the hot pixels of the document's example (pure: no walk).
-/
namespace Go.Proofs.YtcfghkphkmoikaaGreat
set_option maxRecDepth 100000
set_option linter.unusedVariables false
abbrev l1x : Ln := ⟨0, 0, 128, 128⟩
abbrev l2x : Ln := ⟨0, 128, 128, 0⟩
abbrev two16 : List Ln := [l1x, l2x]
def H5 : List Pq := [⟨0, 0⟩, ⟨0, 2⟩, ⟨1, 1⟩, ⟨2, 0⟩, ⟨2, 2⟩]
theorem wf_tiny16 (a b c d : Int) (h : -1000 ≤ a ∧ a ≤ 1000 ∧ -1000 ≤ b ∧ b ≤ 1000 ∧ -1000 ≤ c ∧ c ≤ 1000 ∧ -1000 ≤ d ∧ d ≤ 1000) : (⟨a, b, c, d⟩ : Ln).wf := by
  unfold Ln.wf InP In64
  simp only
  omega
theorem m11 : (meetCp l1x l1x).k = 2 := by kernel_rfl
theorem m22 : (meetCp l2x l2x).k = 2 := by kernel_rfl
theorem m12 : (meetCp l1x l2x).k = 1 := by kernel_rfl
theorem m21 : (meetCp l2x l1x).k = 1 := by kernel_rfl
theorem p12 : (pixX (meetCp l1x l2x), pixY (meetCp l1x l2x)) = (1, 1) := by kernel_rfl
theorem p21 : (pixX (meetCp l2x l1x), pixY (meetCp l2x l1x)) = (1, 1) := by kernel_rfl
theorem a1 : pxA l1x = (0, 0) := by kernel_rfl
theorem b1 : pxB l1x = (2, 2) := by kernel_rfl
theorem a2 : pxA l2x = (0, 2) := by kernel_rfl
theorem b2 : pxB l2x = (2, 0) := by kernel_rfl
theorem hot5 : HotL two16 H5 := by
  refine ⟨?_, fun p => ?_⟩
  · unfold H5 LtP
    simp
  · have hm : p ∈ H5 ↔ (p.x, p.y) = ((0, 0) : Int × Int) ∨ (p.x, p.y) = ((0, 2) : Int × Int) ∨ (p.x, p.y) = ((1, 1) : Int × Int) ∨ (p.x, p.y) = ((2, 0) : Int × Int) ∨ (p.x, p.y) = ((2, 2) : Int × Int) := by
      obtain ⟨x, y⟩ := p
      unfold H5
      simp
    rw [hm]
    constructor
    · rintro (h | h | h | h | h) <;> rw [h]
      · exact .inl ⟨l1x, by simp, .inl a1.symm⟩
      · exact .inl ⟨l2x, by simp, .inl a2.symm⟩
      · exact .inr ⟨l1x, by simp, l2x, by simp, m12, p12.symm⟩
      · exact .inl ⟨l2x, by simp, .inr b2.symm⟩
      · exact .inl ⟨l1x, by simp, .inr b1.symm⟩
    · rintro (⟨l, hl, h⟩ | ⟨s, hs, t, ht, hk, h⟩)
      · simp only [List.mem_cons, List.not_mem_nil, or_false] at hl
        rcases hl with rfl | rfl
        · rw [a1, b1] at h
          rcases h with h | h
          · exact .inl h
          · exact .inr (.inr (.inr (.inr h)))
        · rw [a2, b2] at h
          rcases h with h | h
          · exact .inr (.inl h)
          · exact .inr (.inr (.inr (.inl h)))
      · simp only [List.mem_cons, List.not_mem_nil, or_false] at hs ht
        rcases hs with rfl | rfl <;> rcases ht with rfl | rfl
        · rw [m11] at hk; cases hk
        · rw [p12] at h; exact .inr (.inr (.inl h))
        · rw [p21] at h; exact .inr (.inr (.inl h))
        · rw [m22] at hk; cases hk
end Go.Proofs.YtcfghkphkmoikaaGreat
