/-
  Texts of this seat, put together: each with its own head.
-/
import Derived.Test.YtcfghkphkmoikaaGreatMqA
import Derived.Test.YtcfghkphkmoikaaGreatPxK
import Derived.Test.YtcfghkphkmoikaaGreatMqS
import Derived.Test.YtcfghkphkmoikaaGreatPxL
import Derived.Test.YtcfghkphkmoikaaGreatMqE
import Derived.Test.YtcfghkphkmoikaaGreatPxN

/-
  Layer 17: 'spread', 'mixed'; the functions that the sorts of pixels are handed, walked to the world that they leave.
-/
namespace Go.Proofs.YtcfghkphkmoikaaGreat
set_option maxRecDepth 100000
open Go.RowKit Go.Sort
set_option linter.unusedVariables false
def sp1 (n k m : Int) : Int := bits .and .i64 (bits .or .i64 n (wrap64 (n * k))) m
def spreadI (n : Int) : Int := sp1 (sp1 (sp1 (sp1 (sp1 n 65536 281470681808895) 256 71777214294589695) 16 1085102592571150095) 4 3689348814741910323) 2 6148914691236517205
theorem sn_spread (n : Int) (w : World) : Calls Tryz.prog 101 #[.int .i64 n] w fun e w' => e = .returned (.int .i64 (spreadI n)) ∧ w = w' := by
  unfold spreadI sp1
  go_enter Tryz.func101, Tryz.ntmps101
  go_wp2
  go_ret
  exact ⟨rfl, rfl⟩
/-- The number by which pixels are sorted. -/
def mixP (p : Pq) : Int := bits .or .i64 (IntKind.i64.wrap (spreadI (IntKind.i64.wrap (p.x + 65536)) * 2)) (spreadI (IntKind.i64.wrap (p.y + 65536)))
set_option maxHeartbeats 4000000 in
theorem sn_mixed (p : Pq) (w : World) : Calls Tryz.prog 69 #[Pt p.x p.y] w fun e w' => e = .returned (.int .i64 (mixP p)) ∧ Gr w w' := by
  have h1 := fun w => sn_spread (IntKind.i64.wrap (p.x + 65536)) w
  have h2 := fun w => sn_spread (IntKind.i64.wrap (p.y + 65536)) w
  unfold mixP Pt
  generalize hA : spreadI (IntKind.i64.wrap (p.x + 65536)) = A at *
  generalize hB : spreadI (IntKind.i64.wrap (p.y + 65536)) = B at *
  have H1 := Lib.hid h1; have H2 := Lib.hid h2
  clear h1 h2 hA hB
  go_enter Tryz.func69, Tryz.ntmps69
  go_upto_region 1 with fail
  refine wp_named fun wq hwq => ?_
  have hS : Since w wq := by subst hwq; (repeat (first | with_reducible (exact Since.refl _) | with_reducible assumption | with_reducible (refine Since.drew ?_) | with_reducible (refine Since.drewN ?_ _) | with_reducible (refine Since.alloc ?_ _) | (with_reducible (refine Since.setCell ?_ ?_ _); rotate_left; focus (first | (simp; done) | (simp; omega) | omega)) | (with_reducible (refine Since.trans ?_ (by with_reducible assumption)))))
  have hG : Gr w wq := by subst hwq; exact (Gr.refl w).alloc _
  have hA : PtAt wq w.heap.size p.x p.y := by subst hwq; exact pt_new w _ rfl _ _ _
  obtain ⟨a1, a2, a3⟩ := hA
  clear hwq
  have HG := Lib.hid hG
  clear hG
  (refine wp_named fun wr1 hwr1 => ?_; go_region_held3 (fun w' => (∀ b o, b < wr1.heap.size → w'.cell? ⟨b, o, none⟩ = wr1.cell? ⟨b, o, none⟩) ∧ (∀ b o, b < wr1.heap.size → w'.frozen? ⟨b, o, none⟩ = wr1.frozen? ⟨b, o, none⟩) ∧ (∀ k, k < wr1.heap.size → k < w'.heap.size) ∧ Below wr1.heap.size wr1 w' ∧ Gr wr1 w') ((subst hwr1; first | with_reducible assumption | (refine gr_step (by with_reducible assumption) ?_; first | with_reducible assumption | ((repeat (first | with_reducible (exact Gr.refl _) | with_reducible assumption | with_reducible (refine Gr.drew ?_) | with_reducible (refine Gr.drewN ?_ _) | with_reducible (refine Gr.alloc ?_ _))); done)) | (refine gr_step (gr_start _) ?_; first | with_reducible assumption | ((repeat (first | with_reducible (exact Gr.refl _) | with_reducible assumption | with_reducible (refine Gr.drew ?_) | with_reducible (refine Gr.drewN ?_ _) | with_reducible (refine Gr.alloc ?_ _) | (with_reducible (refine Gr.trans ?_ (by with_reducible assumption))))); done)))) (first | (go_at_call 101; (with_reducible refine (H1.out _).mono ?_); rintro e w1 ⟨rfl, rfl⟩) | (go_at_call 101; (with_reducible refine (H2.out _).mono ?_); rintro e w1 ⟨rfl, rfl⟩)); all_goals (rename_i hHeld; obtain ⟨hcR1, hfR1, hzR1, hbR1, hgR1⟩ := hHeld; subst hwr1))
  all_goals go_wp2_with fail
  all_goals go_ret
  all_goals exact ⟨rfl, HG.out.trans (by (repeat (first | with_reducible (exact Gr.refl _) | with_reducible assumption | with_reducible (refine Gr.drew ?_) | with_reducible (refine Gr.drewN ?_ _) | with_reducible (refine Gr.alloc ?_ _) | (with_reducible (refine Gr.trans ?_ (by with_reducible assumption))))))⟩
def cmpM (p q : Pq) : Int := cmpI (mixP p) (mixP q)
set_option maxHeartbeats 4000000 in
theorem sn_bymix (p q : Pq) (w : World) : Calls Tryz.prog 68 #[Pt p.x p.y, Pt q.x q.y] w fun e w' => e = .returned (.int .i64 (cmpM p q)) ∧ Gr w w' := by
  have h1 := fun w => sn_mixed p w
  have h2 := fun w => sn_mixed q w
  unfold cmpM Pt at *
  generalize mixP p = A at *
  generalize mixP q = B at *
  have H1 := Lib.hid h1; have H2 := Lib.hid h2
  clear h1 h2
  go_enter Tryz.func68, Tryz.ntmps68
  go_upto_region 1 with fail
  refine wp_named fun wq hwq => ?_
  have hS : Since w wq := by subst hwq; (repeat (first | with_reducible (exact Since.refl _) | with_reducible assumption | with_reducible (refine Since.drew ?_) | with_reducible (refine Since.drewN ?_ _) | with_reducible (refine Since.alloc ?_ _) | (with_reducible (refine Since.setCell ?_ ?_ _); rotate_left; focus (first | (simp; done) | (simp; omega) | omega)) | (with_reducible (refine Since.trans ?_ (by with_reducible assumption)))))
  have hG : Gr w wq := by subst hwq; exact ((Gr.refl w).alloc _).alloc _
  have hA : PtAt wq w.heap.size p.x p.y := by subst hwq; exact (pt_new w _ rfl _ _ _).alloc _
  have hB : PtAt wq (w.heap.size + 1) q.x q.y := by subst hwq; exact pt_new _ (w.heap.size + 1) (by simp) _ _ _
  obtain ⟨a1, a2, a3⟩ := hA
  obtain ⟨b1, b2, b3⟩ := hB
  clear hwq
  have HG := Lib.hid hG
  clear hG
  have tok7 : True := trivial
  have tok8 : True := trivial
  (refine wp_named fun wr1 hwr1 => ?_; go_region_held3 (fun w' => (∀ b o, b < wr1.heap.size → w'.cell? ⟨b, o, none⟩ = wr1.cell? ⟨b, o, none⟩) ∧ (∀ b o, b < wr1.heap.size → w'.frozen? ⟨b, o, none⟩ = wr1.frozen? ⟨b, o, none⟩) ∧ (∀ k, k < wr1.heap.size → k < w'.heap.size) ∧ Below wr1.heap.size wr1 w' ∧ Gr wr1 w') ((subst hwr1; first | with_reducible assumption | (refine gr_step (by with_reducible assumption) ?_; first | with_reducible assumption | ((repeat (first | with_reducible (exact Gr.refl _) | with_reducible assumption | with_reducible (refine Gr.drew ?_) | with_reducible (refine Gr.drewN ?_ _) | with_reducible (refine Gr.alloc ?_ _))); done)) | (refine gr_step (gr_start _) ?_; first | with_reducible assumption | ((repeat (first | with_reducible (exact Gr.refl _) | with_reducible assumption | with_reducible (refine Gr.drew ?_) | with_reducible (refine Gr.drewN ?_ _) | with_reducible (refine Gr.alloc ?_ _) | (with_reducible (refine Gr.trans ?_ (by with_reducible assumption))))); done)))) (first | (go_at_call 69; have _t := tok7; (with_reducible refine (H1.out _).mono ?_); rintro e w1 ⟨rfl, hG1⟩; have hZ1 := hG1.since.below.size; (try simp at hZ1); clear tok7) | (go_at_call 69; have _t := tok8; (with_reducible refine (H2.out _).mono ?_); rintro e w1 ⟨rfl, hG1⟩; have hZ1 := hG1.since.below.size; (try simp at hZ1); clear tok8) | (go_at_call 55; refine (cmp_int _ _ _).mono ?_; rintro e w1 ⟨rfl, rfl⟩)); all_goals (rename_i hHeld; obtain ⟨hcR1, hfR1, hzR1, hbR1, hgR1⟩ := hHeld; subst hwr1))
  all_goals go_wp2_with fail
  all_goals go_ret
  all_goals exact ⟨rfl, HG.out.trans (by (repeat (first | with_reducible (exact Gr.refl _) | with_reducible assumption | with_reducible (refine Gr.drew ?_) | with_reducible (refine Gr.drewN ?_ _) | with_reducible (refine Gr.alloc ?_ _) | (with_reducible (refine Gr.trans ?_ (by with_reducible assumption))))))⟩
theorem cmpM_lt (p q : Pq) : Go.Proofs.ltOf cmpM p q = decide (mixP p < mixP q) := by
  unfold Go.Proofs.ltOf cmpM
  rw [Bool.eq_iff_iff]
  simp only [decide_eq_true_eq]
  exact cmp_lt
theorem swo_mix : SWO (Go.Proofs.ltOf cmpM) where
  irrefl x := by rw [cmpM_lt]; simp
  trans x y z h1 h2 := by rw [cmpM_lt] at *; simp at *; omega
  ntrans x y z h1 h2 := by rw [cmpM_lt] at *; simp at *; omega
end Go.Proofs.YtcfghkphkmoikaaGreat

/-
  Layer 17: the order of pixels along a line, as the sort is handed it; the library's sort by it, and by the mixed numbers.
-/
namespace Go.Proofs.YtcfghkphkmoikaaGreat
set_option maxRecDepth 100000
open Go.RowKit Go.Sort
set_option linter.unusedVariables false
def sgL (d : Bool) (n : Int) : Int := if d then -n else n
def cmpA (l : Ln) (p q : Pq) : Int := orI (sgL (decide (l.bx < l.ax)) (cmpI p.x q.x)) (sgL (decide (l.bz < l.ay)) (cmpI p.y q.y))
theorem cmpA_lt (l : Ln) (p q : Pq) : Go.Proofs.ltOf (cmpA l) p q = decide (AhP (decide (l.ax ≤ l.bx)) (decide (l.ay ≤ l.bz)) p q) := by
  unfold Go.Proofs.ltOf cmpA orI sgL AhP
  rw [Bool.eq_iff_iff]
  simp only [decide_eq_true_eq]
  rcases cmp_is p.x q.x with ⟨e, k⟩ | ⟨e, k⟩ | ⟨e, k⟩ <;> rcases cmp_is p.y q.y with ⟨e', k'⟩ | ⟨e', k'⟩ | ⟨e', k'⟩ <;> rw [e, e'] <;> (repeat' split) <;> omega
theorem swo_ah (l : Ln) : SWO (Go.Proofs.ltOf (cmpA l)) where
  irrefl x := by rw [cmpA_lt]; simp [ah_irr]
  trans x y z h1 h2 := by
    rw [cmpA_lt] at *
    simp only [decide_eq_true_eq] at *
    exact ah_tr h1 h2
  ntrans x y z h1 h2 := by
    rw [cmpA_lt] at *
    simp only [decide_eq_false_iff_not] at *
    intro h
    by_cases e : x = y
    · subst e; exact h2 h
    · have h3 := (ah_tri (sx := decide (l.ax ≤ l.bx)) (sy := decide (l.ay ≤ l.bz)) e).resolve_left h1
      exact h2 (ah_tr h3 h)
set_option maxRecDepth 100000 in
set_option maxHeartbeats 4000000 in
theorem sn_byway (l : Ln) (p q : Pq) (b : Nat) (w : World) (hl : LnAt w b l) :
    Calls Tryz.prog 58 #[.agg #[.int .i64 p.x, .int .i64 p.y], .agg #[.int .i64 q.x, .int .i64 q.y], .pointer (some ⟨b, 0, none⟩)] w fun e w' => e = .returned (.int .i64 (cmpA l p q)) ∧ Gr w w' := by
  obtain ⟨x, y⟩ := p
  obtain ⟨u, v⟩ := q
  obtain ⟨ax, ay, bx, bz⟩ := l
  unfold cmpA
  simp only
  have h1 := fun w => cmp_int x u w
  have h2 := fun w => cmp_int y v w
  have n1 : IntKind.i64.wrap (-(cmpI x u)) = -(cmpI x u) := IntWalk.i64_in _ (by rcases cmp_is x u with ⟨e, k⟩ | ⟨e, k⟩ | ⟨e, k⟩ <;> omega)
  have n2 : IntKind.i64.wrap (-(cmpI y v)) = -(cmpI y v) := IntWalk.i64_in _ (by rcases cmp_is y v with ⟨e, k⟩ | ⟨e, k⟩ | ⟨e, k⟩ <;> omega)
  generalize cmpI x u = A at *
  generalize cmpI y v = B at *
  have hO := fun w b h => or_two (sgL (decide (bx < ax)) A) (sgL (decide (bz < ay)) B) w b h
  have H1 := Lib.hid h1; have H2 := Lib.hid h2
  clear h1 h2
  unfold sgL at *
  cases d1 : decide (bx < ax) <;> cases d2 : decide (bz < ay)
  all_goals
    rw [d1, d2] at hO
    simp only [if_true, if_false, Bool.false_eq_true] at hO ⊢
  all_goals
    have HO := Lib.hid hO
    clear hO
    try (have HN1 := Lib.hid n1)
    go_enter Tryz.func58, Tryz.ntmps58
    go_upto_region 1 with fail
    refine wp_named fun wq hwq => ?_
    have hG : Gr w wq := by subst hwq; exact ((Gr.refl w).alloc _).alloc _
    have hA : PtAt wq w.heap.size x y := by subst hwq; exact (pt_new w _ rfl x y _).alloc _
    have hB : PtAt wq (w.heap.size + 1) u v := by subst hwq; exact pt_new _ (w.heap.size + 1) (by simp) u v _
    have hL := hl.since hG.since
    obtain ⟨a1, a2, a3⟩ := hA
    obtain ⟨b1, b2, b3⟩ := hB
    obtain ⟨l1, l2, l3, l4, l5⟩ := hL
    clear hwq hl
    have HG := Lib.hid hG
    clear hG
    have tok7 : True := trivial
    have tok8 : True := trivial
    (refine wp_named fun wr1 hwr1 => ?_; go_region_held3 (fun w' => (∀ b o, b < wr1.heap.size → w'.cell? ⟨b, o, none⟩ = wr1.cell? ⟨b, o, none⟩) ∧ (∀ b o, b < wr1.heap.size → w'.frozen? ⟨b, o, none⟩ = wr1.frozen? ⟨b, o, none⟩) ∧ (∀ k, k < wr1.heap.size → k < w'.heap.size) ∧ Below wr1.heap.size wr1 w' ∧ Gr wr1 w') ((subst hwr1; first | with_reducible assumption | (refine gr_step (by with_reducible assumption) ?_; first | with_reducible assumption | ((repeat (first | with_reducible (exact Gr.refl _) | with_reducible assumption | with_reducible (refine Gr.drew ?_) | with_reducible (refine Gr.drewN ?_ _) | with_reducible (refine Gr.alloc ?_ _))); done)) | (refine gr_step (gr_start _) ?_; first | with_reducible assumption | ((repeat (first | with_reducible (exact Gr.refl _) | with_reducible assumption | with_reducible (refine Gr.drew ?_) | with_reducible (refine Gr.drewN ?_ _) | with_reducible (refine Gr.alloc ?_ _) | (with_reducible (refine Gr.trans ?_ (by with_reducible assumption))))); done)))) (first | (go_at_call 55; have _t := tok7; (with_reducible refine (H1.out _).mono ?_); rintro e w1 ⟨rfl, rfl⟩; clear tok7) | (go_at_call 55; have _t := tok8; (with_reducible refine (H2.out _).mono ?_); rintro e w1 ⟨rfl, rfl⟩; clear tok8)); all_goals (rename_i hHeld; obtain ⟨hcR1, hfR1, hzR1, hbR1, hgR1⟩ := hHeld; subst hwr1))
    all_goals go_wp2_with (go_at_call 59; (with_reducible refine (HO.out _ _ (by first | with_reducible (exact pt_new _ _ rfl _ _ _) | with_reducible (exact PtAt.drew (pt_new _ _ rfl _ _ _)))).mono ?_); rintro e w1 ⟨rfl, rfl⟩)
    all_goals go_ret
    all_goals exact ⟨rfl, HG.out.trans (by (repeat (first | with_reducible (exact Gr.refl _) | with_reducible assumption | with_reducible (refine Gr.drew ?_) | with_reducible (refine Gr.drewN ?_ _) | with_reducible (refine Gr.alloc ?_ _) | (with_reducible (refine Gr.trans ?_ (by with_reducible assumption))))))⟩
/-- The library's sort of points by any order that is handed over with what it has captured. -/
theorem sort_pts (cf : Pq → Pq → Int) (hO : SWO (Go.Proofs.ltOf cf)) (g : Nat) (cb : Array Value) (eg : ∀ args w, (callFunc g args).run Tryz.prog w = .ok (.enter g args) w) (w0 w : World) (base : Nat) (v : Value) (L : List Pq)
    (hS : Since w0 w) (hb : w0.heap.size ≤ base) (hR : OwnG 23 2 ptL w base v L) (hL : L.length < 4611686018427387904)
    (hcmp : ∀ (p q : Pq) (w' : World), w.heap.size ≤ w'.heap.size → (∀ b, b < w.heap.size → some b ≠ v.ownBlock → w'.heap[b]? = w.heap[b]?) → Calls Tryz.prog g (#[.agg #[.int .i64 p.x, .int .i64 p.y], .agg #[.int .i64 q.x, .int .i64 q.y]] ++ cb) w' fun e w2 => e = .returned (.int .i64 (cf p q)) ∧ Gr w' w2) :
    Calls Tryz.prog 57 #[v, .func (.func g) #[] cb] w fun e w' => (∃ u, e = .returned u) ∧ ∃ L', List.Perm L' L ∧ SortedL (Go.Proofs.ltOf cf) L' ∧ OwnG 23 2 ptL w' base v L' ∧ Since w0 w' ∧ w.heap.size ≤ w'.heap.size ∧ ∀ b, b < w.heap.size → some b ≠ v.ownBlock → w'.heap[b]? = w.heap[b]? := by
  have hR2 := hR
  obtain ⟨_, h2⟩ := hR2
  rcases h2 with ⟨rfl, h0⟩ | ⟨g', cap, cur, rfl, _⟩
  · have hl0 : L = [] := List.length_eq_zero_iff.1 h0
    subst hl0
    have h := Go.Proofs.AnyF.slices_SortFunc_none sortPt none 0 (.func (.func g) #[] cb) w
    change Calls Tryz.prog 57 _ _ _ at h
    refine h.mono ?_
    rintro e w' ⟨rfl, rfl⟩
    exact ⟨⟨_, rfl⟩, [], List.Perm.refl _, List.Pairwise.nil, hR, hS, Nat.le_refl _, fun _ _ _ => rfl⟩
  · obtain ⟨hH, hlt, hbg, _⟩ := own_holds (by omega) ptL_len hR
    have hc : Go.Proofs.CmpLays Tryz.prog g cb ptL 2 cf g' 0 L.toArray.size w := fun m os dk _ x y => by
      refine (hcmp x y _ (sort_size w g' m dk os) fun b hbl hne => sort_heap w g' m dk os hlt b hbl (fun e => hne (by rw [e]; rfl))).mono ?_
      rintro e w' ⟨rfl, q, os', h⟩
      exact ⟨rfl, q, os', h⟩
    have h := Go.Proofs.AnyQ.slices_SortFunc sortPt 2 Tryz.isAgg23 Tryz.sizeOf23 ptL ptL_len ptL_one cf hO g cb g' 0 cap L.toArray w eg hc hH hlt (by simpa using hL)
    change Calls Tryz.prog 57 _ _ _ at h
    rw [List.size_toArray] at h
    refine h.mono ?_
    rintro e w' ⟨rfl, d', n, os, hp, hs, rfl⟩
    have hp2 := perm_of (d := L.toArray) (d' := d') (by simpa using hp)
    exact ⟨⟨_, rfl⟩, d'.toList, by simpa using hp2.1, sorted_of (by simpa using hp2.2) hs, sort_own (by omega) ptL_len hR n d' os (by simpa using hp2.2), sort_since hS (by omega) hlt n d' os, sort_size w g' n d' os, fun b hbl hne => sort_heap w g' n d' os hlt b hbl (fun e => hne (by rw [e]; rfl))⟩
theorem sn_sortm (w0 w : World) (base : Nat) (v : Value) (L : List Pq) (hS : Since w0 w) (hb : w0.heap.size ≤ base) (hR : OwnG 23 2 ptL w base v L) (hL : L.length < 4611686018427387904) :
    Calls Tryz.prog 57 #[v, .func (.func 68) #[] #[]] w fun e w' => (∃ u, e = .returned u) ∧ ∃ L', List.Perm L' L ∧ OwnG 23 2 ptL w' base v L' ∧ Since w0 w' ∧ w.heap.size ≤ w'.heap.size ∧ ∀ b, b < w.heap.size → some b ≠ v.ownBlock → w'.heap[b]? = w.heap[b]? := by
  refine (sort_pts cmpM swo_mix 68 #[] (Go.Proofs.enters_of Tryz.func68 (by kernel_rfl) rfl) w0 w base v L hS hb hR hL (fun p q w' _ _ => sn_bymix p q w')).mono ?_
  rintro e w' ⟨hu, L', h1, _, h3, h4, h5, h6⟩
  exact ⟨hu, L', h1, h3, h4, h5, h6⟩
theorem sn_sorta (l : Ln) (bl : Nat) (w0 w : World) (base : Nat) (v : Value) (L : List Pq) (hS : Since w0 w) (hb : w0.heap.size ≤ base) (hR : OwnG 23 2 ptL w base v L) (hL : L.length < 4611686018427387904) (hl : LnAt w bl l) (hne : some bl ≠ v.ownBlock) :
    Calls Tryz.prog 57 #[v, .func (.func 58) #[] #[.pointer (some ⟨bl, 0, none⟩)]] w fun e w' => (∃ u, e = .returned u) ∧ ∃ L', List.Perm L' L ∧ SortedL (Go.Proofs.ltOf (cmpA l)) L' ∧ OwnG 23 2 ptL w' base v L' ∧ Since w0 w' := by
  refine (sort_pts (cmpA l) (swo_ah l) 58 #[.pointer (some ⟨bl, 0, none⟩)] (Go.Proofs.enters_of Tryz.func58 (by kernel_rfl) rfl) w0 w base v L hS hb hR hL (fun p q w' hz hk => ?_)).mono ?_
  · refine sn_byway l p q bl w' ?_
    have e := hk bl hl.2.2.2.2 hne
    obtain ⟨l1, l2, l3, l4, l5⟩ := hl
    refine ⟨?_, ?_, ?_, ?_, Nat.lt_of_lt_of_le l5 hz⟩ <;> (simp only [World.cell?, e]; first | exact l1 | exact l2 | exact l3 | exact l4)
  · rintro e w' ⟨hu, L', h1, h2, h3, h4, _, _⟩
    exact ⟨hu, L', h1, h2, h3, h4⟩
end Go.Proofs.YtcfghkphkmoikaaGreat

/-
  Layer 17: 'passed', walked.
-/
namespace Go.Proofs.YtcfghkphkmoikaaGreat
set_option maxRecDepth 100000
open Go.RowKit Go.Sort
set_option linter.unusedVariables false
theorem own_off {α : Type} {enc : α → List Value} {t : TypeId} {k base b : Nat} {w : World} {v : Value} {L : List α} (h : OwnG t k enc w base v L) (hb : b < base) : some b ≠ v.ownBlock := fun e => by
  have := (h.lt e.symm).1
  omega
def hitL (l : Ln) (p : Pq) : Bool := hitB l p.x p.y
theorem filter_take {α : Type} (f : α → Bool) {L : List α} {j : Nat} {s : α} (h : L[j]? = some s) : (L.take (j + 1)).filter f = (L.take j).filter f ++ (if f s then [s] else []) := by
  rw [List.take_add_one, h, List.filter_append]
  cases hf : f s <;> simp [hf]
set_option maxHeartbeats 8000000 in
theorem sn_passed (l : Ln) (hl : l.wf) (A : Option Addr) (n c : Nat) (N : List Pq) (w : World) (hn : n = N.length) (hr : RdG 2 ptL w w.heap.size A N) (hN : n ≤ 100000000) :
    Calls Tryz.prog 32 #[l.v, .slice A n c] w fun e w' => ∃ v C, e = .returned v ∧ OwnG 23 2 ptL w' w.heap.size v C ∧ Since w w' ∧ List.Perm C (N.filter (hitL l)) ∧ SortedL (Go.Proofs.ltOf (cmpA l)) C := by
  have hH := fun x y w => px_hits l hl x y w
  have hLn := fun w b hb t => ln_new w b hb l t
  have hSo := fun w0 w base v L hS hb hR hL hll hne => sn_sorta l w0.heap.size w0 w base v L hS hb hR hL hll hne
  unfold Ln.v Pt at *
  have HH := Lib.hid hH; have HL := Lib.hid hLn; have HR := Lib.hid hr; have HN := Lib.hid hn
  clear hH hLn hr hn hl hSo
  go_enter Tryz.func32, Tryz.ntmps32
  go_upto_region 2 with fail
  refine wp_named fun w0 hw0 => ?_
  have hS0 : Since w w0 := by subst hw0; exact (Since.refl w).alloc _
  have hl0 : LnAt w0 w.heap.size l := by subst hw0; exact HL.out w _ rfl _
  have hz0 : w0.heap.size = w.heap.size + 1 := by subst hw0; simp
  clear hw0
  have hS0' := Lib.hid hS0
  have HL0 := Lib.hid hl0
  have HZ := Lib.hid hz0
  have HBL : Hid (∃ q, q = w.heap.size) := Lib.hid ⟨_, rfl⟩
  clear hz0 hS0 hl0
  go_wp2
  go_loopw [5, 10] (fun v y wr => ∃ j : Nat, j ≤ n ∧ y = .int .i64 (j : Int) ∧ OwnG 23 2 ptL wr w0.heap.size v ((N.take j).filter (hitL l)) ∧ Since w0 wr) (fun _ y _ => n - (intOf y).toNat)
  case atStart => exact ⟨0, by omega, rfl, by simp; exact OwnG.nil _ _ _ _ _, Since.refl _⟩
  case round =>
    obtain ⟨j, hj, rfl, hO, hS⟩ := hrel
    have hl := HL0.out.since hS
    obtain ⟨l1, l2, l3, l4, l5⟩ := id hl
    by_cases hjn : j < n
    · have hnn := HN.out
      obtain ⟨b, o, rfl, hb, hcell⟩ := HR.out (by omega)
      obtain ⟨s, hs⟩ : ∃ s, N[j]? = some s := ⟨_, List.getElem?_eq_getElem (by omega)⟩
      have hSw := hS0'.out.trans hS
      have c1 := (hSw.1 _ _ hb).trans (hcell j _ hs 0 (by omega))
      have c2 := (hSw.1 _ _ hb).trans (hcell j _ hs 1 (by omega))
      simp only [ptL, List.getD_cons_succ, List.getD_cons_zero, Nat.add_zero] at c1 c2
      have hj0 : (0 : Int) ≤ j := by omega
      have hj1 : (j : Int) < n := by omega
      have hbr : b < wr.heap.size := hSw.2.2.1 _ hb
      have HT := Lib.hid (filter_take (hitL l) hs)
      have hbool := HH.out s.x s.y
      change ∀ w : World, Calls _ _ _ _ (fun e w' => e = .returned (.bool (hitL l s)) ∧ _) at hbool
      have hsz : (((N.take j).filter (hitL l)).length : Int) ≤ j := by
        have := List.length_filter_le (hitL l) (N.take j)
        have := List.length_take_le j N
        omega
      clear hnn hcell hs
      cases hb1 : hitL l s
      · rw [hb1] at hbool HT
        have HB := Lib.hid hbool
        clear hbool hb1
        go_wp2_with (go_at_call 56; (with_reducible refine (HB.out _).mono ?_); rintro e w1 ⟨rfl, hS1⟩; have hT1 : Since wr w1 := (by (repeat (first | with_reducible (exact Since.refl _) | with_reducible assumption | with_reducible (refine Since.drew ?_) | with_reducible (refine Since.drewN ?_ _) | with_reducible (refine Since.alloc ?_ _) | (with_reducible (refine Since.setCell ?_ ?_ _); rotate_left; focus (first | (simp; done) | (simp; omega) | omega)) | (with_reducible (refine Since.trans ?_ (by with_reducible assumption)))))))
        have hO1 := hO.since hT1
        have hS2 := hS.trans hT1
        go_roundw
        case rel => exact ⟨j + 1, by omega, by go_num, by rw [HT.out]; simpa using hO1, hS2⟩
        case measure => (simp only [intOf]; omega)
      · rw [hb1] at hbool HT
        have HB := Lib.hid hbool
        clear hbool hb1
        go_upto_region 6 with (go_at_call 56; (with_reducible refine (HB.out _).mono ?_); rintro e w1 ⟨rfl, hS1⟩; have hT1 : Since wr w1 := (by (repeat (first | with_reducible (exact Since.refl _) | with_reducible assumption | with_reducible (refine Since.drew ?_) | with_reducible (refine Since.drewN ?_ _) | with_reducible (refine Since.alloc ?_ _) | (with_reducible (refine Since.setCell ?_ ?_ _); rotate_left; focus (first | (simp; done) | (simp; omega) | omega)) | (with_reducible (refine Since.trans ?_ (by with_reducible assumption)))))); have hP1 := (pt_new wr _ rfl s.x s.y 23).since hS1)
        have hO1 := hO.since hT1
        have hS2 := hS.trans hT1
        have hbase := hS2.below.size
        obtain ⟨p1, p2, p3⟩ := hP1
        clear l1 l2 l3 l4 l5 hl c1 c2 hO hS hT1 hS1 hSw
        go_wp2_with (at_builtin; refine wpList_append_g rfl _ _ 28 23 rfl (by omega) ptL_len ptL_one 16 Tryz.underlying28 infoPt w0.heap.size _ ((N.take j).filter (hitL l)) rfl (OwnG.alloc hO1 _) _ _ 1 [s] rfl (pt_one w1 _ rfl _ s) (by simp only [List.length_cons, List.length_nil]; omega) (by simp only [List.length_cons, List.length_nil, maxLen]; omega) (by simp; omega) ?_; intro v7 w7 hO7 hg7 hb7)
        have hS7 : Since w0 w7 := since_grown (hS2.alloc _) hg7 (fun k e => (hb7 k e).1)
        go_roundw
        case rel => exact ⟨j + 1, by omega, by go_num, by rw [HT.out]; simpa using hO7, hS7⟩
        case measure => (simp only [intOf]; omega)
    · obtain rfl : j = n := by omega
      have hjn' : ¬ (j : Int) < j := by omega
      have hall : (N.take j).filter (hitL l) = N.filter (hitL l) := by rw [List.take_of_length_le (by rw [← HN.out]; exact Nat.le_refl _)]
      rw [hall] at hO
      have hlen : (N.filter (hitL l)).length ≤ j := by rw [HN.out]; exact List.length_filter_le _ _
      have hne : some w.heap.size ≠ _ := own_off hO (by have := HZ.out; omega)
      go_wp2_with (go_at_call 57; (with_reducible refine (sn_sorta l w.heap.size w0 _ w0.heap.size _ (N.filter (hitL l)) hS (Nat.le_refl _) hO (by omega) hl hne).mono ?_); rintro e w6 ⟨⟨u6, rfl⟩, C, hp, hs, hO6, hS6⟩)
      go_ret
      exact ⟨_, C, rfl, OwnG.lower' hO6 (by have := HZ.out; omega), hS0'.out.trans hS6, hp, hs⟩
/-- What 'passed' answers is the line's chain. -/
theorem chain_of {l : Ln} {N H C : List Pq} (hd : N.Nodup) (hp : List.Perm C (N.filter (hitL l))) (ho : SortedL (Go.Proofs.ltOf (cmpA l)) C) (hm : ∀ p, p ∈ H → hitL l p = true → p ∈ N) (hN : ∀ p ∈ N, p ∈ H) :
    ChainL (decide (l.ax ≤ l.bx)) (decide (l.ay ≤ l.bz)) (fun p => hitB l p.x p.y) H C := by
  have hdc : C.Nodup := hp.nodup_iff.2 (hd.filter _)
  constructor
  · have h2 := ho.and hdc
    refine h2.imp fun {x y} h => ?_
    obtain ⟨h1, h2⟩ := h
    rw [cmpA_lt] at h1
    exact (ah_tri h2).resolve_right (of_decide_eq_false h1)
  · intro p
    rw [hp.mem_iff, List.mem_filter]
    constructor
    · rintro ⟨a, b⟩; exact ⟨hN p a, b⟩
    · rintro ⟨a, b⟩; exact ⟨hm p a b, b⟩
end Go.Proofs.YtcfghkphkmoikaaGreat
