/-
  Layer 16: what 'Hot' does with a pair (Hot$1), walked.
-/
import Derived.Test.YtckochcocflleaaGreatPxN
import Derived.Test.YtckochcocflleaaGreatCrV
namespace Go.Proofs.YtckochcocflleaaGreat
open Go.RowKit Go.Maps
open Go.Sort
set_option linter.unusedVariables false

/-- The pixel in which two lines meet, if they do in one. -/
def metP (s t : Ln) : List (Int × Int) := if (meetCp s t).k = 1 then [(pixX (meetCp s t), pixY (meetCp s t))] else []
theorem KC.grown {a b c : World} (h : KC a b) {g : Nat} (hg : b.grownBy c (some g)) (hm : ∀ cs t z, b.heap[g]? ≠ some (Obj.cells cs t z)) : KC a c :=
  h.trans ⟨hg.size, fun x cs t z hx => by
    have hlt : x < b.heap.size := by
      rcases Nat.lt_or_ge x b.heap.size with k | k
      · exact k
      · rw [Array.getElem?_eq_none k] at hx; cases hx
    rw [hg.block x hlt (fun e => by injection e with e; subst e; exact hm cs t z hx)]; exact hx⟩
set_option maxRecDepth 100000 in
set_option maxHeartbeats 16000000 in
theorem px_hot1 (s t : Ln) (hs : s.wf) (ht : t.wf) (hsh : (meetCp s t).k = 1 → ShOK (meetCp s t).x (meetCp s t).d ∧ ShOK (meetCp s t).y (meetCp s t).d) (bv bm n : Nat) (M : List (Int × Int)) (w : World)
    (hv : w.cell? ⟨bv, 0, none⟩ = some (.map (some bm))) (hvl : bv < w.heap.size) (hM : MapOf w bm n M) (hn : n < 100000000) :
    Calls Tryz.prog 14 #[s.v, t.v, .pointer (some ⟨bv, 0, none⟩)] w fun e w' => (∃ v, e = .returned v) ∧ ∃ n', n' ≤ n + 1 ∧ MapOf w' bm n' (M ++ metP s t) ∧ (∃ wy, Since w wy ∧ (w' = wy ∨ wy.grownBy w' (some bm))) := by
  have hme := fun w => cr_meet s t hs ht w
  have hpx := fun w => cr_pixel (meetCp s t) hsh w
  unfold metP
  generalize meetCp s t = p at *
  generalize meetE s t = E at *
  have hN := fun w b hb t' => ln_new w b hb s t'
  have hN2 := fun w b hb t' => ln_new w b hb t t'
  have hCr := fun w b hb t' => crow w b hb t' p
  have hX1 : -131073 ≤ pixX p ∧ pixX p ≤ 131073 := by
    unfold pixX; split
    · rename_i h; exact mid_in (hsh h).1
    · omega
  have hY1 : -131073 ≤ pixY p ∧ pixY p ≤ 131073 := by
    unfold pixY; split
    · rename_i h; exact mid_in (hsh h).2
    · omega
  generalize hX : pixX p = X at *
  generalize hY : pixY p = Y at *
  have hk : keyOf Tryz.prog 34 (.agg #[.int .i64 X, .int .i64 Y]) = some (kP X Y) := keyOf_pt (wf_of64 (by unfold In64; omega)) (wf_of64 (by unfold In64; omega))
  unfold Ln.v Cp.v Pt at *
  have HME := Lib.hid hme; have HPX := Lib.hid hpx; have HN := Lib.hid hN; have HN2 := Lib.hid hN2; have HCR := Lib.hid hCr; have HK := Lib.hid hk
  clear hme hpx hN hN2 hCr hk hX hY hsh hX1 hY1
  have hbl : bv < w.heap.size := hvl
  obtain ⟨Z, hZ⟩ : ∃ Z, Z = (if p.k = 1 then [(X, Y)] else []) := ⟨_, rfl⟩
  rw [← hZ]
  have HZ := Lib.hid hZ
  clear hZ
  go_enter Tryz.func14, Tryz.ntmps14
  go_upto_region 3 with (first | (go_at_call 15; (with_reducible refine (HME.out _).mono ?_); rintro e w1 ⟨rfl, hS1⟩; have hT1 : Since w w1 := (by (repeat (first | with_reducible (exact Since.refl _) | with_reducible assumption | with_reducible (refine Since.drew ?_) | with_reducible (refine Since.drewN ?_ _) | with_reducible (refine Since.alloc ?_ _) | (with_reducible (refine Since.setCell ?_ ?_ _); rotate_left; focus (first | (simp; done) | (simp; omega) | omega)) | (with_reducible (refine Since.trans ?_ (by with_reducible assumption)))))); have rC := HCR.out w1 w1.heap.size rfl) | (go_at_call 16; (with_reducible refine (HPX.out _).mono ?_); rintro e w2 ⟨rfl, hS2⟩; have hT2 : Since w w2 := (by (repeat (first | with_reducible (exact Since.refl _) | with_reducible assumption | with_reducible (refine Since.drew ?_) | with_reducible (refine Since.drewN ?_ _) | with_reducible (refine Since.alloc ?_ _) | (with_reducible (refine Since.setCell ?_ ?_ _); rotate_left; focus (first | (simp; done) | (simp; omega) | omega)) | (with_reducible (refine Since.trans ?_ (by with_reducible assumption))))))))
  refine wp_named fun wa hwa => ?_
  have hTa : Since w wa := by subst hwa; exact hT2.alloc _
  have hPa : PtAt wa w2.heap.size X Y := by subst hwa; exact pt_new w2 _ rfl X Y _
  have hva : wa.cell? ⟨bv, 0, none⟩ = some (.map (some bm)) := (hTa.1 _ _ hvl).trans hv
  have hla : bv < wa.heap.size := hTa.2.2.1 _ hvl
  have hMa := hM.since hTa
  clear hwa rC hT1 hS1 hS2 hT2 hM hv hvl hbl HME HPX HN HN2 HCR hs ht
  obtain ⟨a1, a2, a3⟩ := id hPa
  by_cases hk1 : p.k = 1
  · have d1 : (p.k == 1) = true := by simp [hk1]
    have hz : Z = [(X, Y)] := by rw [HZ.out, if_pos hk1]
    subst hz
    clear hk1 HZ
    go_wp2_with (at_mapUpdate; refine wpList_mapUpdate_own _ rfl _ _ _ 40 rfl 34 42 lawPt Tryz.underlying40 (unitElem (H := Unit)) bm n _ rfl hMa (by unfold maxLen; omega) _ _ _ rfl rfl (HK.out) _ [] unitElem_mk ?_; intro v1 hown hgr)
    go_end0
    exact ⟨⟨_, rfl⟩, n + 1, Nat.le_refl _, by show World.ownsMap _ _ _ _ _ _ (setOf (.agg []) (kL (M ++ [(X, Y)]))); rw [kL_snoc]; exact hown, wa, hTa, .inr hgr⟩
  · have d1 : (p.k == 1) = false := by simp [hk1]
    have hz : Z = [] := by rw [HZ.out, if_neg hk1]
    subst hz
    clear hk1 HZ
    go_wp2_with fail
    go_end0
    exact ⟨⟨_, rfl⟩, n, Nat.le_succ _, by rw [List.append_nil]; exact hMa, wa, hTa, .inl rfl⟩
end Go.Proofs.YtckochcocflleaaGreat
