/-
  Layer 9: is a font more than is looked at?
-/
import Derived.Test.YteckkcpnfeoehaaDoorFnF
import Derived.Test.YteckkcpnfeoehaaDoorFnC
import Derived.Test.YteckkcpnfeoehaaDoorMnAg
namespace Go.Proofs.YteckkcpnfeoehaaDoor
set_option maxRecDepth 100000
open Go.RowKit Go.ChangeShapes Go.WideShapes Go.Deep
set_option linter.unusedVariables false
set_option linter.unusedSimpArgs false

theorem sumB_snoc (GG : List (List Int)) (L : List Int) : sumB (GG ++ [L]) = sumB GG + L.length := by unfold sumB; rw [List.map_append, List.sum_append_nat]; simp
def GreatP9 (F : Fn9) (w : World) (e : Ending) (w' : World) : Prop := ∃ g, e = .returned (.bool g) ∧ (g = false → NoGr F) ∧ Since w w'
set_option maxRecDepth 1000000 in
set_option maxHeartbeats 64000000 in
theorem rf_great9 (x : Fh) (F : Fn9) (C : Array Value) (hC : C = fnV x F) (w : World) (hR : FnR w w.heap.size x F) (ht : F.TT.length ≤ maxLen) (hd : ∀ T, T ∈ F.TT → T.data.length ≤ maxLen ∧ T.tag.size ≤ maxLen) (hm : F.MM.length ≤ maxLen) (hg : F.GG.length ≤ maxLen) (hgl : ∀ L, L ∈ F.GG → L.length ≤ maxLen) :
    Calls Tryd.prog 8 #[.agg C] w (GreatP9 F w) := by
  obtain ⟨xAt, xct, xAm, xcm, xAg, xcg⟩ := x
  obtain ⟨hT1, _, hG1⟩ := hR
  have hT1 : RdTL w w.heap.size xAt F.TT := hT1
  have hG1 : RdBL w w.heap.size xAg F.GG := hG1
  have HBX := Lib.hid (fun (w2 : World) (t : TypeId) => (fn_box (x := ⟨xAt, xct, xAm, xcm, xAg, xcg⟩) (nt := F.TT.length) (h := F.h) (m := F.m) (nm := F.MM.length) (ct := F.ct) (ng := F.GG.length) w2 w2.heap.size rfl t))
  have HC := Lib.hid (show C = (fnC ⟨xAt, xct, xAm, xcm, xAg, xcg⟩ F.TT.length F.h F.m F.MM.length F.ct F.GG.length).toArray from hC)
  have HTG := Lib.hid (fun (w2 : World) (h2 : Since w w2) => rf_greatT xAt xct F.TT w2 (hT1.on h2) ht hd)
  unfold GreatTP at HTG
  have HFIN := Lib.hid (fun (h1 : NotGreatT false F.TT) (h2 : F.GG.length ≤ 1100) (h3 : F.MM.length ≤ 1100) (h4 : ∀ L, L ∈ F.GG → L.length ≤ 40000) (h5 : sumB F.GG ≤ 100000) => (⟨(h1 rfl).1, (h1 rfl).2.1, (h1 rfl).2.2, h2, h4, h5, h3⟩ : NoGr F))
  obtain ⟨GG, hGG⟩ : ∃ GG, GG = F.GG := ⟨_, rfl⟩
  rw [← hGG] at hG1 hg hgl HBX HC HFIN
  have hnI : (GG.length : Int) ≤ 9223372036854775807 := by simp only [maxLen] at hg; omega
  have hmI : (F.MM.length : Int) ≤ 9223372036854775807 := by simp only [maxLen] at hm; omega
  obtain ⟨ng, hng⟩ : ∃ n, n = GG.length := ⟨_, rfl⟩
  rw [← hng] at HBX HC hnI HFIN
  have HG1 := Lib.hid hG1
  have HGL := Lib.hid hgl
  have HNG := Lib.hid hng
  generalize F.MM.length = nm at *
  generalize F.TT.length = nt at *
  generalize F.h = H at *
  generalize F.m = M at *
  generalize F.ct = K at *
  clear hC hT1 hG1 ht hm hg hGG hng hgl hd
  go_enter Tryd.func8, Tryd.ntmps8
  go_upto_region 1 with fail
  refine wp_named fun w1 hw1 => ?_
  have hS1 : Since w w1 := by subst hw1; (repeat (first | with_reducible (exact Since.refl _) | with_reducible assumption | with_reducible (refine Since.drew ?_) | with_reducible (refine Since.drewN ?_ _) | with_reducible (refine Since.alloc ?_ _) | (with_reducible (refine Since.setCell ?_ ?_ _); rotate_left; focus (first | (simp; done) | (simp; omega) | omega)) | (with_reducible (refine Since.trans ?_ (by with_reducible assumption)))))
  have hB1 : BoxL w1 w.heap.size (fnC ⟨xAt, xct, xAm, xcm, xAg, xcg⟩ nt H M nm K ng) := by subst hw1; rw [HC.out]; exact HBX.out _ _
  clear hw1 HBX HC
  have c0 := hB1.cell 0 (v := .slice xAt nt xct) rfl
  have hcall := HTG.out _ hS1
  clear HTG
  have key : ∀ g, NotGreatT g F.TT → ∀ w2, Since w1 w2 → True := fun _ _ _ _ => trivial
  clear key
  by_cases h1 : 1100 < ng
  · have d1 : decide ((1100 : Int) < (ng : Int)) = true := by simp; omega
    go_wp2_with (go_at_call 22; (with_reducible refine hcall.mono ?_); rintro e w2 ⟨g, rfl, hgT, hS2⟩; have hS12 := hS1.trans hS2; have hB2 := hB1.since hS2; have k16 := hB2.cell 16 (v := .slice xAg ng xcg) rfl; have k14 := hB2.cell 14 (v := .slice xAm nm xcm) rfl; clear c0 hcall hgT; cases g)
    all_goals go_ret
    all_goals exact ⟨true, by first | rfl | simp, (fun h => Bool.noConfusion h), by first | exact hS12 | (repeat (first | with_reducible (exact Since.refl _) | with_reducible assumption | with_reducible (refine Since.drew ?_) | with_reducible (refine Since.drewN ?_ _) | with_reducible (refine Since.alloc ?_ _) | (with_reducible (refine Since.setCell ?_ ?_ _); rotate_left; focus (first | (simp; done) | (simp; omega) | omega)) | (with_reducible (refine Since.trans ?_ (by with_reducible assumption)))))⟩
  have d1 : decide ((1100 : Int) < (ng : Int)) = false := by simp; omega
  by_cases h2 : 1100 < nm
  · have d2 : decide ((1100 : Int) < (nm : Int)) = true := by simp; omega
    go_wp2_with (go_at_call 22; (with_reducible refine hcall.mono ?_); rintro e w2 ⟨g, rfl, hgT, hS2⟩; have hS12 := hS1.trans hS2; have hB2 := hB1.since hS2; have k16 := hB2.cell 16 (v := .slice xAg ng xcg) rfl; have k14 := hB2.cell 14 (v := .slice xAm nm xcm) rfl; clear c0 hcall hgT; cases g)
    all_goals go_ret
    all_goals exact ⟨true, by first | rfl | simp, (fun h => Bool.noConfusion h), by first | exact hS12 | (repeat (first | with_reducible (exact Since.refl _) | with_reducible assumption | with_reducible (refine Since.drew ?_) | with_reducible (refine Since.drewN ?_ _) | with_reducible (refine Since.alloc ?_ _) | (with_reducible (refine Since.setCell ?_ ?_ _); rotate_left; focus (first | (simp; done) | (simp; omega) | omega)) | (with_reducible (refine Since.trans ?_ (by with_reducible assumption)))))⟩
  have d2 : decide ((1100 : Int) < (nm : Int)) = false := by simp; omega
  go_upto_region 4 with (go_at_call 22; (with_reducible refine hcall.mono ?_); rintro e w2 ⟨g, rfl, hgT, hS2⟩; have hS12 := hS1.trans hS2; have hB2 := hB1.since hS2; have k16 := hB2.cell 16 (v := .slice xAg ng xcg) rfl; have k14 := hB2.cell 14 (v := .slice xAm nm xcm) rfl; have HGT := Lib.hid hgT; clear c0 hcall hgT; cases g)
  · clear hB2 k14 hB1
    have hng : ng ≤ 1100 := by omega
    go_wp2_with fail
    go_loopw [3, 24] (fun v y wr => ∃ (j : Nat) (s : Nat), j ≤ ng ∧ y = .int .i64 (j : Int) ∧ v = .int .i64 (s : Int) ∧ s ≤ j * 40000 ∧ Hid (s = sumB (GG.take j) ∧ ∀ L, L ∈ GG.take j → L.length ≤ 40000) ∧ Since w wr) (fun _ y _ => ng - (intOf y).toNat)
    case atStart => exact ⟨0, 0, by omega, rfl, rfl, by omega, Lib.hid ⟨rfl, fun T h => by simp at h⟩, by (repeat (first | with_reducible (exact Since.refl _) | with_reducible assumption | with_reducible (refine Since.drew ?_) | with_reducible (refine Since.drewN ?_ _) | with_reducible (refine Since.alloc ?_ _) | (with_reducible (refine Since.setCell ?_ ?_ _); rotate_left; focus (first | (simp; done) | (simp; omega) | omega)) | (with_reducible (refine Since.trans ?_ (by with_reducible assumption)))))⟩
    case round =>
      obtain ⟨j, s, hj, rfl, rfl, hs, HH, hS⟩ := hrel
      clear k16
      have hsI : (s : Int) ≤ 44000000 := by omega
      by_cases hjn : j < ng
      · have hjn' : (j : Int) < ng := by omega
        have hjL : j < GG.length := by rw [← HNG.out]; exact hjn
        have hL : GG[j]? = some GG[j] := List.getElem?_eq_getElem hjL
        have hml := HGL.out _ (List.mem_of_getElem? hL)
        have HTK := Lib.hid (show GG.take (j + 1) = GG.take j ++ [GG[j]] from List.take_succ_eq_append_getElem hjL)
        obtain ⟨b, o, A', c', e1, hb, h0, _, _⟩ := (HG1.out.on hS).row hL
        generalize GG[j] = L at *
        subst e1
        obtain ⟨n, hn0⟩ : ∃ n, n = L.length := ⟨_, rfl⟩
        rw [← hn0] at h0 hml
        have HNL := Lib.hid hn0
        simp only [maxLen] at hml
        have hnI2 : (n : Int) ≤ 9223372036854775807 := by omega
        clear hL hjL hn0
        by_cases t2 : 40000 < n
        · have dd2 : decide ((40000 : Int) < (n : Int)) = true := by simp; omega
          go_wp2_with fail
          go_ret
          exact ⟨true, rfl, (fun h => Bool.noConfusion h), by (repeat (first | with_reducible (exact Since.refl _) | with_reducible assumption | with_reducible (refine Since.drew ?_) | with_reducible (refine Since.drewN ?_ _) | with_reducible (refine Since.alloc ?_ _) | (with_reducible (refine Since.setCell ?_ ?_ _); rotate_left; focus (first | (simp; done) | (simp; omega) | omega)) | (with_reducible (refine Since.trans ?_ (by with_reducible assumption)))))⟩
        have dd2 : decide ((40000 : Int) < (n : Int)) = false := by simp; omega
        have HN2 := Lib.hid (show s + n = sumB (GG.take (j + 1)) ∧ ∀ L, L ∈ GG.take (j + 1) → L.length ≤ 40000 from ⟨by rw [HTK.out, sumB_snoc, ← HH.out.1, HNL.out], fun T hT => by
          rw [HTK.out] at hT
          rcases List.mem_append.1 hT with h | h
          · exact HH.out.2 T h
          · obtain rfl := List.mem_singleton.1 h
            have := HNL.out; omega⟩)
        go_wp2_with fail
        go_roundw
        case rel => first | exact ⟨j + 1, s + n, by omega, by first | rfl | go_num | simp, by first | rfl | go_num | simp, by rw [Nat.succ_mul]; omega, HN2, by (repeat (first | with_reducible (exact Since.refl _) | with_reducible assumption | with_reducible (refine Since.drew ?_) | with_reducible (refine Since.drewN ?_ _) | with_reducible (refine Since.alloc ?_ _) | (with_reducible (refine Since.setCell ?_ ?_ _); rotate_left; focus (first | (simp; done) | (simp; omega) | omega)) | (with_reducible (refine Since.trans ?_ (by with_reducible assumption)))))⟩ | ((repeat apply Exists.intro); refine ⟨?_, rfl⟩; exact ⟨j + 1, s + n, by omega, by first | rfl | go_num | simp, by first | rfl | go_num | simp, by rw [Nat.succ_mul]; omega, HN2, by (repeat (first | with_reducible (exact Since.refl _) | with_reducible assumption | with_reducible (refine Since.drew ?_) | with_reducible (refine Since.drewN ?_ _) | with_reducible (refine Since.alloc ?_ _) | (with_reducible (refine Since.setCell ?_ ?_ _); rotate_left; focus (first | (simp; done) | (simp; omega) | omega)) | (with_reducible (refine Since.trans ?_ (by with_reducible assumption)))))⟩)
        case measure => simp [intOf]; omega
      · obtain rfl : ng = j := by omega
        have hjn' : ¬ (ng : Int) < (ng : Int) := by omega
        have e : GG.take ng = GG := by rw [HNG.out]; exact List.take_length
        have HH2 := HH.out
        rw [e] at HH2
        have HF := Lib.hid HH2
        clear HH2 HH e
        by_cases t4 : 100000 < s
        · have d4 : decide ((100000 : Int) < (s : Int)) = true := by simp; omega
          go_wp2_with fail
          go_ret
          exact ⟨true, by first | rfl | simp, (fun h => Bool.noConfusion h), hS⟩
        · have d4 : decide ((100000 : Int) < (s : Int)) = false := by simp; omega
          go_wp2_with fail
          go_ret
          exact ⟨false, by first | rfl | simp, fun _ => HFIN.out HGT.out hng (by omega) HF.out.2 (by rw [← HF.out.1]; omega), hS⟩
  · go_wp2_with fail
    go_ret
    exact ⟨true, by first | rfl | simp, (fun h => Bool.noConfusion h), hS12⟩
end Go.Proofs.YteckkcpnfeoehaaDoor
