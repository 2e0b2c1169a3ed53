/-
  Texts of this seat, put together: each with its own head.
-/
import Derived.Test.YteckkcpnfeoehaaGreatDoorMpV
import Derived.Test.YteckkcpnfeoehaaGreatDoorMpY
import Derived.Test.YteckkcpnfeoehaaGreatDoorMpX
import Derived.Test.YteckkcpnfeoehaaGreatDoorMnAg
import Derived.Test.YteckkcpnfeoehaaGreatDoorMpW

/-
  Layer 9: what is read, is read again the same (no walk).
-/
namespace Go.Proofs.YteckkcpnfeoehaaGreatDoor
set_option maxRecDepth 100000
open Go.RowKit Go.ChangeShapes Go.WideShapes Go.Deep
set_option linter.unusedVariables false
set_option linter.unusedSimpArgs false

theorem rd1_blank {L : List Int} {a : Nat} {last : ByteArray} (h : (rd1 L a last).1 = 0) : blankT (rd1 L a last).2 = (rd1 L a last).2 := by
  unfold rd1 at h ⊢
  split
  · rename_i h1; rw [if_pos h1] at h; cases h
  · rename_i h1
    rw [if_neg h1] at h
    simp only at h ⊢
    generalize (numAt (fnL L) (a + 12) 4).toNat = m at *
    generalize (if m = 0 then 0 else (numAt (fnL L) (a + 8) 4).toNat) = p at *
    by_cases h2 : L.length < p + m
    · rw [if_pos h2] at h; cases h
    · rw [if_neg h2] at h ⊢
      by_cases h3 : sumI (blank4 ⟨strOf (cutL L a 4), cutL L p m⟩) = numAt (fnL L) (a + 4) 4
      · rw [if_pos h3]
        exact congrArg (Tb.mk (strOf (cutL L a 4))) (blank_idem ⟨strOf (cutL L a 4), cutL L p m⟩)
      · rw [if_neg h3] at h; cases h
theorem rd4Go_blank {L : List Int} : ∀ (k i : Nat) (last : ByteArray), (rd4Go L k i last).1 = 0 → ∀ T, T ∈ (rd4Go L k i last).2 → blankT T = T := by
  intro k
  induction k with
  | zero => intro i last _ T hT; cases hT
  | succ k ih =>
    intro i last h
    unfold rd4Go at h ⊢
    by_cases h1 : (rd1 L (12 + 16 * i) last).1 = 0
    · rw [if_pos h1] at h ⊢
      by_cases h2 : (rd4Go L k (i + 1) (rd1 L (12 + 16 * i) last).2.tag).1 = 0
      · rw [if_pos h2]
        intro T hT
        rcases List.mem_cons.1 hT with rfl | hT
        · exact rd1_blank h1
        · exact ih _ _ h2 T hT
      · rw [if_neg h2] at h; exact absurd h h2
    · rw [if_neg h1] at h; exact absurd h h1
theorem rd4_blank {L : List Int} (h : (rd4 L).1 = 0) : ∀ T, T ∈ (rd4 L).2 → blankT T = T := by
  unfold rd4 at h ⊢
  split
  · rename_i h1; rw [if_pos h1] at h; cases h
  · rename_i h1
    rw [if_neg h1] at h
    split
    · rename_i h2; rw [if_pos h2] at h; cases h
    · rename_i h2
      rw [if_neg h2] at h
      split
      · rename_i h3; rw [if_pos h3] at h; cases h
      · rename_i h3
        rw [if_neg h3] at h
        split
        · rename_i h4; rw [if_pos h4] at h; cases h
        · rename_i h4
          rw [if_neg h4] at h
          exact rd4Go_blank _ _ _ h
theorem fnL_any {L : List Int} (h : Bytes L) (j : Nat) : 0 ≤ fnL L j ∧ fnL L j ≤ 255 := by
  unfold fnL
  rw [List.getD_eq_getElem?_getD]
  cases e : L[j]? with
  | none => exact ⟨by decide, by decide⟩
  | some v => exact h v (List.mem_of_getElem? e)
theorem num2 {L : List Int} (h : Bytes L) (p : Nat) : 0 ≤ numAt (fnL L) p 2 ∧ numAt (fnL L) p 2 ≤ 65535 := by
  have := numAt_range (f := fnL L) (p := p) (k := 2) (fun j _ => fnL_any h j)
  simp only [Int.reducePow] at this
  omega
theorem sgn2_in {x : Int} (h : 0 ≤ x ∧ x ≤ 65535) : In64 (sgn 2 x) := by
  unfold sgn In64
  simp only [Int.reducePow]
  split <;> omega
theorem in64_of {x : Int} (h : 0 ≤ x ∧ x ≤ 65535) : In64 x := by unfold In64; omega
theorem in64_0 : In64 0 := by unfold In64; omega
/-- What 'Read' reads where it succeeds. -/
theorem rdT9_fnw {T : List Tb} {F : Fn9} (hb : ∀ U, U ∈ T → Bytes U.data) (h : rdT9 T = (0, F)) : FnW F ∧ F.TT = T.filter (fun T => !isGen T) ∧ F.GG.length ≤ 1024 ∧ F.MM.length ≤ 1024 ∧ ∀ L, L ∈ F.GG → L.length ≤ (dat9 T tgGlyf).length := by
  have hD : ∀ s, Bytes (dat9 T s) := dat9_cases (P := Bytes) (fun v hv => by cases hv) hb
  unfold rdT9 at h
  by_cases h1 : has9 T tgGvar = true
  · rw [if_pos h1] at h; injection h with h _; cases h
  rw [if_neg h1] at h
  by_cases h2 : (has9 T tgLoca && has9 T tgGlyf && has9 T tgHmtx) = false
  · rw [if_pos h2] at h; injection h with h _; cases h
  rw [if_neg h2] at h
  by_cases h3 : fldE T ≠ 0
  · rw [if_pos h3] at h; injection h with h _; exact absurd h h3
  rw [if_neg h3] at h
  by_cases h4 : (fldM T).g < 1 ∨ 1024 < (fldM T).g
  · rw [if_pos h4] at h; injection h with h _; cases h
  rw [if_neg h4] at h
  by_cases h5 : glyE (dat9 T tgLoca) (dat9 T tgGlyf) (fldH T).l (fldM T).g ≠ 0
  · rw [if_pos h5] at h; injection h with h _; exact absurd h h5
  rw [if_neg h5] at h
  by_cases h6 : mtE (dat9 T tgHmtx).length (fldC T) (fldM T).g ≠ 0
  · rw [if_pos h6] at h; injection h with h _; exact absurd h h6
  rw [if_neg h6] at h
  injection h with _ h
  subst h
  have hcut : ∀ L, L ∈ glyG (dat9 T tgLoca) (dat9 T tgGlyf) (fldH T).l (fldM T).g.toNat → Bytes L ∧ L.length ≤ (dat9 T tgGlyf).length := fun L hL => by
    unfold glyG at hL
    obtain ⟨i, _, rfl⟩ := List.mem_map.1 hL
    refine ⟨bytes_cut (hD _) _ _, ?_⟩
    unfold cutL
    rw [List.length_take, List.length_drop]
    omega
  have hH : In64 (fldH T).em ∧ In64 (fldH T).a ∧ In64 (fldH T).b ∧ In64 (fldH T).c ∧ In64 (fldH T).d := by
    unfold fldH
    split
    · have hm : In64 (hdM (fnL (dat9 T tgHead)) (dat9 T tgHead).length) := by
        unfold hdM; split
        · exact in64_of (num2 (hD _) _)
        · exact in64_0
      have hs : ∀ p, In64 (hdS (fnL (dat9 T tgHead)) (dat9 T tgHead).length p) := fun p => by
        unfold hdS; split
        · exact sgn2_in (num2 (hD _) _)
        · exact in64_0
      exact ⟨hm, hs _, hs _, hs _, hs _⟩
    · exact ⟨in64_0, in64_0, in64_0, in64_0, in64_0⟩
  have hM : In64 (fldM T).g ∧ In64 (fldM T).p ∧ In64 (fldM T).c ∧ In64 (fldM T).q ∧ In64 (fldM T).r ∧ In64 (fldM T).e ∧ In64 (fldM T).d := by
    unfold fldM
    split
    · have hm : ∀ p, In64 (mxN (fnL (dat9 T tgMaxp)) (dat9 T tgMaxp).length p) := fun p => by
        unfold mxN; split
        · exact in64_of (num2 (hD _) _)
        · exact in64_0
      exact ⟨hm _, hm _, hm _, hm _, hm _, hm _, hm _⟩
    · exact ⟨in64_0, in64_0, in64_0, in64_0, in64_0, in64_0, in64_0⟩
  have hC : In64 (fldC T) := by
    unfold fldC
    split
    · unfold ofL ctN; split
      · exact in64_of (num2 (hD _) _)
      · exact in64_0
    · exact in64_0
  refine ⟨⟨?_, ?_, ?_, hC, hH, hM⟩, rfl, ?_, ?_, fun L hL => (hcut L hL).2⟩
  · intro U hU; exact hb U ((List.mem_filter.1 hU).1)
  · intro L hL; exact (hcut L hL).1
  · intro j hj
    simp only [List.length_map, List.length_range] at hj
    unfold mtX mtY
    rw [List.getD_eq_getElem?_getD, List.getElem?_map, List.getElem?_range hj]
    constructor
    · show In64 (mtA _ _ j)
      unfold mtA
      split
      · exact in64_of (num2 (hD _) _)
      · exact in64_of (num2 (hD _) _)
    · show In64 (mtB _ _ j)
      unfold mtB
      split
      · exact sgn2_in (num2 (hD _) _)
      · exact sgn2_in (num2 (hD _) _)
  · show (glyG _ _ _ _).length ≤ 1024
    unfold glyG
    simp only [List.length_map, List.length_range]
    omega
  · show (List.map _ _).length ≤ 1024
    simp only [List.length_map, List.length_range]
    omega
theorem rd9_fnw {L : List Int} {F : Fn9} (hb : Bytes L) (h : rd9 L = (0, F)) : FnW F ∧ blank9 F = F ∧ F.TT.length ≤ 64 ∧ (∀ U, U ∈ F.TT → U.data.length ≤ 1048576 ∧ U.tag.size = 4) ∧ F.GG.length ≤ 1024 ∧ F.MM.length ≤ 1024 ∧ ∀ L, L ∈ F.GG → L.length ≤ 1048576 := by
  unfold rd9 at h
  by_cases h1 : (rd4 L).1 ≠ 0
  · rw [if_pos h1] at h; injection h with h _; exact absurd h h1
  rw [if_neg h1] at h
  have h0 : (rd4 L).1 = 0 := Decidable.of_not_not h1
  obtain ⟨f1, f2⟩ := rd4_facts hb h0
  obtain ⟨k1, k2, k3, k4, k5⟩ := rdT9_fnw (fun U hU => (f2 U hU).1) h
  have hg : (dat9 (rd4 L).2 tgGlyf).length ≤ 1048576 := dat9_cases (P := fun L => L.length ≤ 1048576) (by simp) (fun U hU => (f2 U hU).2.1) _
  refine ⟨k1, ?_, ?_, ?_, k3, k4, fun M hM => Nat.le_trans (k5 M hM) hg⟩
  · unfold blank9
    have : F.TT.map blankT = F.TT := by
      rw [k2]
      exact (List.map_congr_left (fun U hU => rd4_blank h0 U ((List.mem_filter.1 hU).1))).trans (List.map_id' _)
    rw [this]
  · rw [k2]; exact Nat.le_trans (List.length_filter_le _ _) f1
  · intro U hU
    rw [k2] at hU
    exact (f2 U ((List.mem_filter.1 hU).1)).2
end Go.Proofs.YteckkcpnfeoehaaGreatDoor

/-
  Layer 9: is a font more than is looked at?
-/
namespace Go.Proofs.YteckkcpnfeoehaaGreatDoor
set_option maxRecDepth 100000
open Go.RowKit Go.ChangeShapes Go.WideShapes Go.Deep
set_option linter.unusedVariables false
set_option linter.unusedSimpArgs false

theorem sumB_snoc (GG : List (List Int)) (L : List Int) : sumB (GG ++ [L]) = sumB GG + L.length := by unfold sumB; rw [List.map_append, List.sum_append_nat]; simp
def GreatP9 (F : Fn9) (w : World) (e : Ending) (w' : World) : Prop := ∃ g, e = .returned (.bool g) ∧ (g = false → NoGr F) ∧ Since w w'
set_option maxRecDepth 1000000 in
set_option maxHeartbeats 64000000 in
theorem rf_great9 (x : Fh) (F : Fn9) (C : Array Value) (hC : C = fnV x F) (w : World) (hR : FnR w w.heap.size x F) (ht : F.TT.length ≤ maxLen) (hd : ∀ T, T ∈ F.TT → T.data.length ≤ maxLen ∧ T.tag.size ≤ maxLen) (hm : F.MM.length ≤ maxLen) (hg : F.GG.length ≤ maxLen) (hgl : ∀ L, L ∈ F.GG → L.length ≤ maxLen) :
    Calls Tryz.prog 6 #[.agg C] w (GreatP9 F w) := by
  obtain ⟨xAt, xct, xAm, xcm, xAg, xcg⟩ := x
  obtain ⟨hT1, _, hG1⟩ := hR
  have hT1 : RdTL w w.heap.size xAt F.TT := hT1
  have hG1 : RdBL w w.heap.size xAg F.GG := hG1
  have HBX := Lib.hid (fun (w2 : World) (t : TypeId) => (fn_box (x := ⟨xAt, xct, xAm, xcm, xAg, xcg⟩) (nt := F.TT.length) (h := F.h) (m := F.m) (nm := F.MM.length) (ct := F.ct) (ng := F.GG.length) w2 w2.heap.size rfl t))
  have HC := Lib.hid (show C = (fnC ⟨xAt, xct, xAm, xcm, xAg, xcg⟩ F.TT.length F.h F.m F.MM.length F.ct F.GG.length).toArray from hC)
  have HTG := Lib.hid (fun (w2 : World) (h2 : Since w w2) => rf_greatT xAt xct F.TT w2 (hT1.on h2) ht hd)
  unfold GreatTP at HTG
  have HFIN := Lib.hid (fun (h1 : NotGreatT false F.TT) (h2 : F.GG.length ≤ 1100) (h3 : F.MM.length ≤ 1100) (h4 : ∀ L, L ∈ F.GG → L.length ≤ 40000) (h5 : sumB F.GG ≤ 100000) => (⟨(h1 rfl).1, (h1 rfl).2.1, (h1 rfl).2.2, h2, h4, h5, h3⟩ : NoGr F))
  obtain ⟨GG, hGG⟩ : ∃ GG, GG = F.GG := ⟨_, rfl⟩
  rw [← hGG] at hG1 hg hgl HBX HC HFIN
  have hnI : (GG.length : Int) ≤ 9223372036854775807 := by simp only [maxLen] at hg; omega
  have hmI : (F.MM.length : Int) ≤ 9223372036854775807 := by simp only [maxLen] at hm; omega
  obtain ⟨ng, hng⟩ : ∃ n, n = GG.length := ⟨_, rfl⟩
  rw [← hng] at HBX HC hnI HFIN
  have HG1 := Lib.hid hG1
  have HGL := Lib.hid hgl
  have HNG := Lib.hid hng
  generalize F.MM.length = nm at *
  generalize F.TT.length = nt at *
  generalize F.h = H at *
  generalize F.m = M at *
  generalize F.ct = K at *
  clear hC hT1 hG1 ht hm hg hGG hng hgl hd
  go_enter Tryz.func6, Tryz.ntmps6
  go_upto_region 1 with fail
  refine wp_named fun w1 hw1 => ?_
  have hS1 : Since w w1 := by subst hw1; (repeat (first | with_reducible (exact Since.refl _) | with_reducible assumption | with_reducible (refine Since.drew ?_) | with_reducible (refine Since.drewN ?_ _) | with_reducible (refine Since.alloc ?_ _) | (with_reducible (refine Since.setCell ?_ ?_ _); rotate_left; focus (first | (simp; done) | (simp; omega) | omega)) | (with_reducible (refine Since.trans ?_ (by with_reducible assumption)))))
  have hB1 : BoxL w1 w.heap.size (fnC ⟨xAt, xct, xAm, xcm, xAg, xcg⟩ nt H M nm K ng) := by subst hw1; rw [HC.out]; exact HBX.out _ _
  clear hw1 HBX HC
  have c0 := hB1.cell 0 (v := .slice xAt nt xct) rfl
  have hcall := HTG.out _ hS1
  clear HTG
  have key : ∀ g, NotGreatT g F.TT → ∀ w2, Since w1 w2 → True := fun _ _ _ _ => trivial
  clear key
  by_cases h1 : 1100 < ng
  · have d1 : decide ((1100 : Int) < (ng : Int)) = true := by simp; omega
    go_wp2_with (go_at_call 22; (with_reducible refine hcall.mono ?_); rintro e w2 ⟨g, rfl, hgT, hS2⟩; have hS12 := hS1.trans hS2; have hB2 := hB1.since hS2; have k16 := hB2.cell 16 (v := .slice xAg ng xcg) rfl; have k14 := hB2.cell 14 (v := .slice xAm nm xcm) rfl; clear c0 hcall hgT; cases g)
    all_goals go_ret
    all_goals exact ⟨true, by first | rfl | simp, (fun h => Bool.noConfusion h), by first | exact hS12 | (repeat (first | with_reducible (exact Since.refl _) | with_reducible assumption | with_reducible (refine Since.drew ?_) | with_reducible (refine Since.drewN ?_ _) | with_reducible (refine Since.alloc ?_ _) | (with_reducible (refine Since.setCell ?_ ?_ _); rotate_left; focus (first | (simp; done) | (simp; omega) | omega)) | (with_reducible (refine Since.trans ?_ (by with_reducible assumption)))))⟩
  have d1 : decide ((1100 : Int) < (ng : Int)) = false := by simp; omega
  by_cases h2 : 1100 < nm
  · have d2 : decide ((1100 : Int) < (nm : Int)) = true := by simp; omega
    go_wp2_with (go_at_call 22; (with_reducible refine hcall.mono ?_); rintro e w2 ⟨g, rfl, hgT, hS2⟩; have hS12 := hS1.trans hS2; have hB2 := hB1.since hS2; have k16 := hB2.cell 16 (v := .slice xAg ng xcg) rfl; have k14 := hB2.cell 14 (v := .slice xAm nm xcm) rfl; clear c0 hcall hgT; cases g)
    all_goals go_ret
    all_goals exact ⟨true, by first | rfl | simp, (fun h => Bool.noConfusion h), by first | exact hS12 | (repeat (first | with_reducible (exact Since.refl _) | with_reducible assumption | with_reducible (refine Since.drew ?_) | with_reducible (refine Since.drewN ?_ _) | with_reducible (refine Since.alloc ?_ _) | (with_reducible (refine Since.setCell ?_ ?_ _); rotate_left; focus (first | (simp; done) | (simp; omega) | omega)) | (with_reducible (refine Since.trans ?_ (by with_reducible assumption)))))⟩
  have d2 : decide ((1100 : Int) < (nm : Int)) = false := by simp; omega
  go_upto_region 4 with (go_at_call 22; (with_reducible refine hcall.mono ?_); rintro e w2 ⟨g, rfl, hgT, hS2⟩; have hS12 := hS1.trans hS2; have hB2 := hB1.since hS2; have k16 := hB2.cell 16 (v := .slice xAg ng xcg) rfl; have k14 := hB2.cell 14 (v := .slice xAm nm xcm) rfl; have HGT := Lib.hid hgT; clear c0 hcall hgT; cases g)
  · clear hB2 k14 hB1
    have hng : ng ≤ 1100 := by omega
    go_wp2_with fail
    go_loopw [3, 24] (fun v y wr => ∃ (j : Nat) (s : Nat), j ≤ ng ∧ y = .int .i64 (j : Int) ∧ v = .int .i64 (s : Int) ∧ s ≤ j * 40000 ∧ Hid (s = sumB (GG.take j) ∧ ∀ L, L ∈ GG.take j → L.length ≤ 40000) ∧ Since w wr) (fun _ y _ => ng - (intOf y).toNat)
    case atStart => exact ⟨0, 0, by omega, rfl, rfl, by omega, Lib.hid ⟨rfl, fun T h => by simp at h⟩, by (repeat (first | with_reducible (exact Since.refl _) | with_reducible assumption | with_reducible (refine Since.drew ?_) | with_reducible (refine Since.drewN ?_ _) | with_reducible (refine Since.alloc ?_ _) | (with_reducible (refine Since.setCell ?_ ?_ _); rotate_left; focus (first | (simp; done) | (simp; omega) | omega)) | (with_reducible (refine Since.trans ?_ (by with_reducible assumption)))))⟩
    case round =>
      obtain ⟨j, s, hj, rfl, rfl, hs, HH, hS⟩ := hrel
      clear k16
      have hsI : (s : Int) ≤ 44000000 := by omega
      by_cases hjn : j < ng
      · have hjn' : (j : Int) < ng := by omega
        have hjL : j < GG.length := by rw [← HNG.out]; exact hjn
        have hL : GG[j]? = some GG[j] := List.getElem?_eq_getElem hjL
        have hml := HGL.out _ (List.mem_of_getElem? hL)
        have HTK := Lib.hid (show GG.take (j + 1) = GG.take j ++ [GG[j]] from List.take_succ_eq_append_getElem hjL)
        obtain ⟨b, o, A', c', e1, hb, h0, _, _⟩ := (HG1.out.on hS).row hL
        generalize GG[j] = L at *
        subst e1
        obtain ⟨n, hn0⟩ : ∃ n, n = L.length := ⟨_, rfl⟩
        rw [← hn0] at h0 hml
        have HNL := Lib.hid hn0
        simp only [maxLen] at hml
        have hnI2 : (n : Int) ≤ 9223372036854775807 := by omega
        clear hL hjL hn0
        by_cases t2 : 40000 < n
        · have dd2 : decide ((40000 : Int) < (n : Int)) = true := by simp; omega
          go_wp2_with fail
          go_ret
          exact ⟨true, rfl, (fun h => Bool.noConfusion h), by (repeat (first | with_reducible (exact Since.refl _) | with_reducible assumption | with_reducible (refine Since.drew ?_) | with_reducible (refine Since.drewN ?_ _) | with_reducible (refine Since.alloc ?_ _) | (with_reducible (refine Since.setCell ?_ ?_ _); rotate_left; focus (first | (simp; done) | (simp; omega) | omega)) | (with_reducible (refine Since.trans ?_ (by with_reducible assumption)))))⟩
        have dd2 : decide ((40000 : Int) < (n : Int)) = false := by simp; omega
        have HN2 := Lib.hid (show s + n = sumB (GG.take (j + 1)) ∧ ∀ L, L ∈ GG.take (j + 1) → L.length ≤ 40000 from ⟨by rw [HTK.out, sumB_snoc, ← HH.out.1, HNL.out], fun T hT => by
          rw [HTK.out] at hT
          rcases List.mem_append.1 hT with h | h
          · exact HH.out.2 T h
          · obtain rfl := List.mem_singleton.1 h
            have := HNL.out; omega⟩)
        go_wp2_with fail
        go_roundw
        case rel => first | exact ⟨j + 1, s + n, by omega, by first | rfl | go_num | simp, by first | rfl | go_num | simp, by rw [Nat.succ_mul]; omega, HN2, by (repeat (first | with_reducible (exact Since.refl _) | with_reducible assumption | with_reducible (refine Since.drew ?_) | with_reducible (refine Since.drewN ?_ _) | with_reducible (refine Since.alloc ?_ _) | (with_reducible (refine Since.setCell ?_ ?_ _); rotate_left; focus (first | (simp; done) | (simp; omega) | omega)) | (with_reducible (refine Since.trans ?_ (by with_reducible assumption)))))⟩ | ((repeat apply Exists.intro); refine ⟨?_, rfl⟩; exact ⟨j + 1, s + n, by omega, by first | rfl | go_num | simp, by first | rfl | go_num | simp, by rw [Nat.succ_mul]; omega, HN2, by (repeat (first | with_reducible (exact Since.refl _) | with_reducible assumption | with_reducible (refine Since.drew ?_) | with_reducible (refine Since.drewN ?_ _) | with_reducible (refine Since.alloc ?_ _) | (with_reducible (refine Since.setCell ?_ ?_ _); rotate_left; focus (first | (simp; done) | (simp; omega) | omega)) | (with_reducible (refine Since.trans ?_ (by with_reducible assumption)))))⟩)
        case measure => simp [intOf]; omega
      · obtain rfl : ng = j := by omega
        have hjn' : ¬ (ng : Int) < (ng : Int) := by omega
        have e : GG.take ng = GG := by rw [HNG.out]; exact List.take_length
        have HH2 := HH.out
        rw [e] at HH2
        have HF := Lib.hid HH2
        clear HH2 HH e
        by_cases t4 : 100000 < s
        · have d4 : decide ((100000 : Int) < (s : Int)) = true := by simp; omega
          go_wp2_with fail
          go_ret
          exact ⟨true, by first | rfl | simp, (fun h => Bool.noConfusion h), hS⟩
        · have d4 : decide ((100000 : Int) < (s : Int)) = false := by simp; omega
          go_wp2_with fail
          go_ret
          exact ⟨false, by first | rfl | simp, fun _ => HFIN.out HGT.out hng (by omega) HF.out.2 (by rw [← HF.out.1]; omega), hS⟩
  · go_wp2_with fail
    go_ret
    exact ⟨true, by first | rfl | simp, (fun h => Bool.noConfusion h), hS12⟩
end Go.Proofs.YteckkcpnfeoehaaGreatDoor

/-
  Layer 9: FontAgain walked.
-/
namespace Go.Proofs.YteckkcpnfeoehaaGreatDoor
set_option maxRecDepth 100000
open Go.RowKit Go.ChangeShapes Go.WideShapes Go.Deep
set_option linter.unusedVariables false
set_option linter.unusedSimpArgs false

def CV (x : Fh) (F : Fn9) (C : Array Value) : Prop := C = fnV x F
def FB (w : World) (b : Nat) (x : Fh) (F : Fn9) : Prop := BoxL w b (fnC x F.TT.length F.h F.m F.MM.length F.ct F.GG.length)
theorem FB.since {w w' : World} {b : Nat} {x : Fh} {F : Fn9} (h : FB w b x F) (k : Since w w') : FB w' b x F := BoxL.since h k
theorem fb_store {w : World} {b : Nat} {y : Fh} {F : Fn9} {C : Array Value} {ops : Array Oper} {rest : List Oper} {op : Oper} {a : Act} {Q : Exit → Act → World → Prop} (hgd : op.guard = none) (x z : Operand) (ho : op.op = .store 30 x z) (hx : a.eval x = .pointer (some ⟨b, 0, none⟩)) (hB : BoxL w b (fnC zX 0 zH zM 0 0 0)) (hC : CV y F C) (hz : a.eval z = .agg C) (hk : ∀ w', FB w' b y F → Nigh b w w' → wpList Tryz.prog ops Q rest (a.put op.dst undef) w') : wpList Tryz.prog ops Q (op :: rest) a w :=
  wp_fn_store hgd x z ho hx hB y F.TT.length F.h F.m F.MM.length F.ct F.GG.length (hz.trans (congrArg Value.agg hC)) hk
theorem fb_load {w : World} {b : Nat} {y : Fh} {F : Fn9} {C : Array Value} {ops : Array Oper} {rest : List Oper} {op : Oper} {a : Act} {Q : Exit → Act → World → Prop} (hgd : op.guard = none) (x : Operand) (ho : op.op = .load 30 x) (hx : a.eval x = .pointer (some ⟨b, 0, none⟩)) (hB : FB w b y F) (hC : CV y F C) (hk : wpList Tryz.prog ops Q rest (a.put op.dst (.agg C)) w) : wpList Tryz.prog ops Q (op :: rest) a w :=
  wp_fn_load hgd x ho hx hB (by have := hk; rw [hC] at this; exact this)
theorem fb_var {w : World} {b : Nat} {x : Fh} {F : Fn9} {C : Array Value} (hC : CV x F C) (hB : FB w b x F) : (loadVar 30 ⟨b, 0, none⟩).run Tryz.prog w = .ok (.agg C) w := by
  rw [hC]
  exact run_loadVar_mid w b 0 30 _ _ hB.1 Tryz.underlying30 rfl infoFn
theorem ag_yes (x : Fh) (F : Fn9) (C : Array Value) (hC : CV x F C) (w : World) (hT : Tabs w) (hR : FnR w w.heap.size x F) (hG : NoGr F) (hW : FnW F) (hgc : F.GG.length ≤ x.cg) (hr : right9 F) :
    Calls Tryz.prog 8 #[.agg C] w fun e w' => ∃ A m c, e = .returned (.tuple #[.slice A m c, .int .i64 0]) ∧ Hid (m = (file4 (all9 F)).length) ∧ RdB w' w'.heap.size A (file4 (all9 F)) ∧ m ≤ c ∧ Since w w' := by
  refine (fn_write x F _ hC w hT hR hG hW hgc).mono ?_
  rintro e w' ⟨v, rfl, hO, hS⟩
  unfold file9 at hO
  rw [if_pos (right9_yes hr)] at hO
  obtain ⟨A, c, rfl, hc, hr2⟩ := OwnG.rd (by omega) byL_len hO
  exact ⟨A, _, c, by rw [if_pos (right9_yes hr)], Lib.hid rfl, hr2, hc, hS⟩
theorem ag_right (x : Fh) (F : Fn9) (C : Array Value) (hC : CV x F C) (w : World) (hT : Tabs w) (hR : FnR w w.heap.size x F) (hG : NoGr F) (hW : FnW F) (hgc : F.GG.length ≤ x.cg) (b : Bool) (hb : Right9 F = b) :
    Calls Tryz.prog 10 #[.agg C] w fun e w' => e = .returned (.bool b) ∧ Since w w' := by
  rw [← hb]
  exact fn_right x F _ hC w hT hR hG hW hgc
/-- What the walk of FontAgain wants of what was read. -/
structure AgF (F : Fn9) : Prop where
  num : FnW F
  bl : blank9 F = F
  tl : F.TT.length ≤ 64
  td : ∀ U, U ∈ F.TT → U.data.length ≤ 1048576 ∧ U.tag.size = 4
  gl : F.GG.length ≤ 1024
  ml : F.MM.length ≤ 1024
  gd : ∀ L, L ∈ F.GG → L.length ≤ 1048576
theorem AgF.of {L : List Int} {F : Fn9} (hb : Bytes L) (h : rd9 L = (0, F)) : AgF F := by
  obtain ⟨a, b, c, d, e, f, g⟩ := rd9_fnw hb h
  exact ⟨a, b, c, d, e, f, g⟩
attribute [-go_sem] loadVar
end Go.Proofs.YteckkcpnfeoehaaGreatDoor
