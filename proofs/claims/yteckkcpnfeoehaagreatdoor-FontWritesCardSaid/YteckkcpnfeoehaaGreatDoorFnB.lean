/-
  Layer 9: a font's cells; Places of the program and of the document.
-/
import Derived.Test.YteckkcpnfeoehaaGreatDoorMpN
import Derived.Test.YteckkcpnfeoehaaGreatDoorMpD
import Derived.Test.YteckkcpnfeoehaaGreatDoorMpO
namespace Go.Proofs.YteckkcpnfeoehaaGreatDoor
set_option maxRecDepth 100000
open Go.RowKit Go.ChangeShapes Go.WideShapes Go.Deep
set_option linter.unusedVariables false
set_option linter.unusedSimpArgs false

/-- The headers of a font's rows. -/
structure Fh where
  (At : Option Addr) (ct : Nat) (Am : Option Addr) (cm : Nat) (Ag : Option Addr) (cg : Nat)
def hdC (h : Hd9) : List Value := [.int .i64 h.em, .int .i64 h.a, .int .i64 h.b, .int .i64 h.c, .int .i64 h.d, .bool h.l]
def mxC (m : Mx9) : List Value := [.int .i64 m.g, .int .i64 m.p, .int .i64 m.c, .int .i64 m.q, .int .i64 m.r, .int .i64 m.e, .int .i64 m.d]
/-- A font's cells. -/
def fnC (x : Fh) (nt : Nat) (h : Hd9) (m : Mx9) (nm : Nat) (ct : Int) (ng : Nat) : List Value :=
  .slice x.At nt x.ct :: (hdC h ++ (mxC m ++ [.slice x.Am nm x.cm, .int .i64 ct, .slice x.Ag ng x.cg]))
theorem fnC_len (x : Fh) (nt : Nat) (h : Hd9) (m : Mx9) (nm : Nat) (ct : Int) (ng : Nat) : (fnC x nt h m nm ct ng).length = 17 := rfl
/-- A font's rows, as they read. -/
structure FnR (w : World) (B : Nat) (x : Fh) (F : Fn9) : Prop where
  tabs : RdTL w B x.At F.TT
  mets : Rd w B x.Am (F.MM.length * 2) (MtV (mtX F.MM) (mtY F.MM))
  glys : RdBL w B x.Ag F.GG
theorem FnR.on {w w' : World} {x : Fh} {F : Fn9} (h : FnR w w.heap.size x F) (k : Since w w') : FnR w' w'.heap.size x F :=
  ⟨h.tabs.on k, h.mets.on k, h.glys.on k⟩
/-- A font no greater than is looked at. -/
structure NoGr (F : Fn9) : Prop where
  tabs : F.TT.length ≤ 101
  dats : ∀ T, T ∈ F.TT → T.data.length ≤ 40000 ∧ T.tag.size ≤ 100
  sumT : sumT F.TT ≤ 100000
  glys : F.GG.length ≤ 1100
  gly : ∀ L, L ∈ F.GG → L.length ≤ 40000
  sumG : sumB F.GG ≤ 100000
  mets : F.MM.length ≤ 1100
/-- Its bytes are bytes, its numbers numbers. -/
structure FnW (F : Fn9) : Prop where
  tabs : ∀ T, T ∈ F.TT → Bytes T.data
  glys : ∀ L, L ∈ F.GG → Bytes L
  mets : ∀ j, j < F.MM.length → In64 (mtX F.MM j) ∧ In64 (mtY F.MM j)
  ct : In64 F.ct
  hd : In64 F.h.em ∧ In64 F.h.a ∧ In64 F.h.b ∧ In64 F.h.c ∧ In64 F.h.d
  mx : In64 F.m.g ∧ In64 F.m.p ∧ In64 F.m.c ∧ In64 F.m.q ∧ In64 F.m.r ∧ In64 F.m.e ∧ In64 F.m.d
abbrev fnV (x : Fh) (F : Fn9) : Array Value := (fnC x F.TT.length F.h F.m F.MM.length F.ct F.GG.length).toArray
theorem infoFn : (Tryz.prog.info? 30).map (·.size) = some 17 := by kernel_rfl
section
variable {w : World} {b : Nat} {x : Fh} {nt nm ng : Nat} {h : Hd9} {m : Mx9} {ct : Int}
theorem fn_box (w : World) (b : Nat) (hb : b = w.heap.size) (t : TypeId) : BoxL (w.alloc (.cells (fnC x nt h m nm ct ng).toArray t)) b (fnC x nt h m nm ct ng) := by
  have := BoxL.new w b hb t (fnC x nt h m nm ct ng).toArray
  simpa using this
theorem fn_load (hB : BoxL w b (fnC x nt h m nm ct ng)) : (Instr.loadAt 30 (.pointer (some ⟨b, 0, none⟩))).run Tryz.prog w = .ok (.agg (fnC x nt h m nm ct ng).toArray) w :=
  hB.load Tryz.underlying30 rfl infoFn
end
/-- Where the glyphs begin, as far as has been counted. -/
def plG (GG : List (List Int)) (j : Nat) : List Int := (List.range (GG.length + 1)).map (fun i => if i ≤ j then pl9 GG i else 0)
def plA (GG : List (List Int)) : List Int := (List.range (GG.length + 1)).map (pl9 GG)
theorem plA_len (GG : List (List Int)) : (plA GG).length = GG.length + 1 := by unfold plA; simp
theorem pl9_zero (GG : List (List Int)) : pl9 GG 0 = 0 := by unfold pl9 sumB; simp
theorem pl9_next {GG : List (List Int)} {j : Nat} {L : List Int} (hj : GG[j]? = some L) : pl9 GG (j + 1) = pl9 GG j + (L.length : Int) := by
  have hl : j < GG.length := by
    rcases Nat.lt_or_ge j GG.length with h | h
    · exact h
    · rw [List.getElem?_eq_none h] at hj; cases hj
  rw [List.getElem?_eq_getElem hl] at hj
  injection hj with hj
  unfold pl9 sumB
  rw [List.take_succ_eq_append_getElem hl, List.map_append, List.sum_append_nat, hj]
  simp
theorem pl9_le (GG : List (List Int)) (j : Nat) : 0 ≤ pl9 GG j ∧ pl9 GG j ≤ (sumB GG : Int) := by
  have := sum_take_le (GG.map List.length) j
  unfold pl9 sumB
  rw [List.map_take]
  omega
theorem plG_zero (GG : List (List Int)) : plG GG 0 = List.replicate (GG.length + 1) 0 := by
  apply List.ext_getElem?
  intro i
  unfold plG
  rw [List.getElem?_map, List.getElem?_replicate]
  by_cases h : i < GG.length + 1
  · rw [List.getElem?_range h, if_pos h]
    simp only [Option.map_some, Option.some.injEq]
    split
    · obtain rfl : i = 0 := by omega
      exact pl9_zero GG
    · rfl
  · rw [List.getElem?_eq_none (by simpa using h), if_neg h]; rfl
theorem plG_all (GG : List (List Int)) : plG GG GG.length = plA GG := by
  unfold plG plA
  refine List.map_congr_left fun i hi => ?_
  rw [List.mem_range] at hi
  rw [if_pos (by omega)]
theorem plG_at {GG : List (List Int)} {j : Nat} (hj : j ≤ GG.length) : (plG GG j)[j]? = some (pl9 GG j) := by
  unfold plG
  rw [List.getElem?_map, List.getElem?_range (by omega)]
  simp
theorem plG_beh {GG : List (List Int)} {j : Nat} (hj : j < GG.length) : (plG GG j)[j + 1]? = some 0 := by
  unfold plG
  rw [List.getElem?_map, List.getElem?_range (by omega)]
  simp only [Option.map_some, Option.some.injEq]
  rw [if_neg (by omega)]
theorem plG_next {GG : List (List Int)} {j : Nat} (hj : j < GG.length) : (plG GG j).set (j + 1) (pl9 GG (j + 1)) = plG GG (j + 1) := by
  apply List.ext_getElem?
  intro i
  rw [List.getElem?_set]
  unfold plG
  rw [List.getElem?_map, List.getElem?_map, List.length_map, List.length_range]
  by_cases h : i < GG.length + 1
  · rw [List.getElem?_range h]
    simp only [Option.map_some]
    by_cases e : j + 1 = i
    · subst e
      rw [if_pos rfl, if_pos (by omega), if_pos (by omega)]
    · rw [if_neg e]
      by_cases h2 : i ≤ j
      · rw [if_pos h2, if_pos (by omega)]
      · rw [if_neg h2, if_neg (by omega)]
  · rw [List.getElem?_eq_none (by simpa using h)]
    simp only [Option.map_none]
    split
    · rw [if_neg (by omega)]
    · rfl
theorem infoIn2 : ∃ i z, Tryz.prog.info? 3 = some i ∧ i.zero = some z ∧ i.size = 1 ∧ i.bytes = 8 ∧ z.cells.toList = inL 0 := by
  obtain ⟨i0, hi, hz0, hz1, hz2⟩ := info_parts infoIn0
  exact ⟨i0, _, hi, hz0, hz1, hz2, rfl⟩
theorem OwnI.put {w : World} {base q n c : Nat} {L : List Int} (h : OwnI w base (.slice (some ⟨q, 0, none⟩) n c) L) (i : Nat) (x : Int) :
    OwnI (w.setCell ⟨q, i, none⟩ (.int .i64 x)) base (.slice (some ⟨q, 0, none⟩) n c) (L.set i x) := by
  have hn : n = L.length := by
    rcases h.2 with ⟨h0, _⟩ | ⟨g, cap, cur, h0, _⟩
    · cases h0
    · injection h0 with _ h1 _
  subst hn
  have h3 := (World.ownsRow.stored h i (.int .i64 x)).1
  have e : (cellsG inL L).set i (.int .i64 x) = cellsG inL (L.set i x) := by
    clear h h3
    induction L generalizing i with
    | nil => rfl
    | cons a r ih =>
      cases i with
      | zero => simp [cellsG, inL]
      | succ i =>
        have := ih i
        simp only [cellsG, List.flatMap_cons, inL, List.cons_append, List.nil_append, List.set_cons_succ] at this ⊢
        rw [this]
  rw [e] at h3
  unfold OwnI OwnG
  rw [List.length_set]
  exact h3
theorem OwnI.cell {w : World} {base q n c : Nat} {L : List Int} (h : OwnI w base (.slice (some ⟨q, 0, none⟩) n c) L) {j : Nat} {x : Int} (hj : L[j]? = some x) : w.cell? ⟨q, j, none⟩ = some (.int .i64 x) := by
  have hl : j < L.length := by
    rcases Nat.lt_or_ge j L.length with h | h
    · exact h
    · rw [List.getElem?_eq_none h] at hj; cases hj
  obtain ⟨A, c', e, _, hr⟩ := OwnG.rd (by omega) inL_len h
  injection e with e1
  obtain ⟨b, o, e2, _, hc⟩ := hr (by omega)
  rw [← e1] at e2
  injection e2 with e2
  injection e2 with e2 e3
  subst e2
  have := hc j x hj 0 (by omega)
  rw [← e3, Nat.mul_one, Nat.add_zero, Nat.zero_add] at this
  exact this
theorem OwnI.frz {w : World} {base q n c : Nat} {L : List Int} (h : OwnI w base (.slice (some ⟨q, 0, none⟩) n c) L) (j : Nat) : w.frozen? ⟨q, j, none⟩ = false := by
  have hn : n = L.length := by
    rcases h.2 with ⟨h0, _⟩ | ⟨g, cap, cur, h0, _⟩
    · cases h0
    · injection h0 with _ h1 _
  subst hn
  exact World.ownsRow.frozenAt h j
theorem BoxL.but {w w' : World} {q b : Nat} {cs : List Value} (h : BoxL w b cs) (k : KeepBut q w w') (hb : b ≠ q) : BoxL w' b cs := by
  have e := k.2 b h.2.2 hb
  refine ⟨fun j v hv => ?_, fun j => ?_, Nat.lt_of_lt_of_le h.2.2 k.1⟩
  · rw [← h.1 j v hv]; simp only [World.cell?, e]
  · rw [← h.2.1 j]; simp only [World.frozen?, e]
set_option maxRecDepth 1000000 in
set_option maxHeartbeats 16000000 in
theorem fn_places (x : Fh) (F : Fn9) (C : Array Value) (hC : C = fnV x F) (w : World) (hR : RdBL w w.heap.size x.Ag F.GG) (hg : F.GG.length ≤ 70000) (hsm : sumB F.GG ≤ 140737488355328) :
    Calls Tryz.prog 12 #[.agg C] w fun e w' => ∃ A c, e = .returned (.slice A (F.GG.length + 1) c) ∧ OwnI w' w.heap.size (.slice A (F.GG.length + 1) c) (plA F.GG) ∧ Since w w' := by
  obtain ⟨xAt, xct, xAm, xcm, xAg, xcg⟩ := x
  have hR : RdBL w w.heap.size xAg F.GG := hR
  obtain ⟨N, hN⟩ : ∃ N, N = F.GG.length := ⟨_, rfl⟩
  have HBX := Lib.hid (fun (t : TypeId) => (fn_box (x := ⟨xAt, xct, xAm, xcm, xAg, xcg⟩) (nt := F.TT.length) (h := F.h) (m := F.m) (nm := F.MM.length) (ct := F.ct) (ng := F.GG.length) w w.heap.size rfl t))
  have HC := Lib.hid hC
  rw [← hN] at hg ⊢
  have HN := Lib.hid hN
  have HSM := Lib.hid hsm
  have m1 : IntKind.i64.wrap ((N : Int) + 1) = ((N + 1 : Nat) : Int) := by rw [IntKind.wrap_i64]; omega
  have hNI : (N : Int) ≤ 70000 := by omega
  clear hC hN hsm
  go_enter Tryz.func12, Tryz.ntmps12
  go_upto_region 1 with fail
  refine wp_named fun w1 hw1 => ?_
  have hS1 : Since w w1 := by subst hw1; (repeat (first | with_reducible (exact Since.refl _) | with_reducible assumption | with_reducible (refine Since.drew ?_) | with_reducible (refine Since.drewN ?_ _) | with_reducible (refine Since.alloc ?_ _) | (with_reducible (refine Since.setCell ?_ ?_ _); rotate_left; focus (first | (simp; done) | (simp; omega) | omega)) | (with_reducible (refine Since.trans ?_ (by with_reducible assumption)))))
  have hB1 : BoxL w1 w.heap.size C.toList := by subst hw1; rw [HC.out]; exact HBX.out _
  have hb0 : w.heap.size < w1.heap.size := hB1.lt
  have c16 : w1.cell? ⟨w.heap.size, 16, none⟩ = some (.slice xAg N xcg) := by rw [HN.out]; exact hB1.cell 16 (by rw [HC.out]; rfl)
  have HB1 := Lib.hid hB1
  clear hw1 HBX hB1
  go_wp2_with (at_make; refine wpList_make_g (enc := inL) (k := 1) (by rfl) _ _ _ 3 (by rfl) (by omega) inL_len 8 0 Tryz.underlying39 infoIn2 (N + 1) (by rfl) (by rfl) (by omega) (by simp only [maxLen]; omega) w.heap.size (Nat.le_of_lt hb0) ?_; intro w2 hO2 hg2; have hS2 : Since w w2 := since_grown hS1 hg2 (fun q hq => by cases hq); have hk2 : Since w1 w2 := since_grown (Since.refl w1) hg2 (fun q hq => by cases hq); have d16 := (hk2.1 _ 16 hb0).trans c16)
  obtain ⟨q, hq⟩ : ∃ q, q = w1.heap.size := ⟨_, rfl⟩
  have hqw : w.heap.size ≤ q := by omega
  have hqb : ¬ w.heap.size = q := by omega
  rw [← hq] at hO2 ⊢
  have hO3 : OwnI w2 w.heap.size (.slice (some ⟨q, 0, none⟩) (N + 1) (N + 1)) (plG F.GG 0) := by rw [plG_zero, ← HN.out]; exact hO2
  have HQ := Lib.hid (show w.heap.size ≤ q from hqw)
  have HR := Lib.hid hR
  have HK := Lib.hid (show KeepBut q w2 w2 from KeepBut.refl q w2)
  have HBX := Lib.hid (HB1.out.since hk2)
  clear hO2 hg2 hk2 hq hqw hR HB1 hS1 hb0 c16 d16
  go_loopw [14] (fun y wr => ∃ j : Nat, j ≤ N ∧ y = .int .i64 (j : Int) ∧ OwnI wr w.heap.size (.slice (some ⟨q, 0, none⟩) (N + 1) (N + 1)) (plG F.GG j) ∧ KeepBut q w2 wr ∧ Since w wr) (fun y _ => N - (intOf y).toNat)
  case atStart => exact ⟨0, by omega, rfl, hO3, HK.out, hS2⟩
  case round =>
    obtain ⟨j, hj, rfl, hO, hKB, hS⟩ := hrel
    clear hO3
    by_cases hjn : j < N
    · have hjL : j < F.GG.length := by rw [← HN.out]; exact hjn
      have hT : F.GG[j]? = some F.GG[j] := List.getElem?_eq_getElem hjL
      obtain ⟨b, o, A', c', e1, hb, hc, hlc, _⟩ := (HR.out.on hS).row hT
      have hj1 : (j : Int) < N := by omega
      have c0 := hO.cell (plG_at (Nat.le_of_lt hjL))
      have f0 := hO.frz (j + 1)
      have c1 := hO.cell (plG_beh hjL)
      have hnx := pl9_next hT
      have hple := pl9_le F.GG j
      have hple2 := pl9_le F.GG (j + 1)
      have hsmm := HSM.out
      generalize F.GG[j] = L at *
      generalize hl : L.length = l at *
      have hput := Lib.hid (show OwnI (wr.setCell ⟨q, j + 1, none⟩ (.int .i64 (pl9 F.GG j + (l : Int)))) w.heap.size (.slice (some ⟨q, 0, none⟩) (N + 1) (N + 1)) (plG F.GG (j + 1)) by
        rw [← plG_next hjL, hnx]; exact hO.put _ _)
      have hkb := Lib.hid (hKB.set (j + 1) (.int .i64 (pl9 F.GG j + (l : Int))))
      have hsn := Lib.hid (hS.setCell (p := ⟨q, j + 1, none⟩) HQ.out (.int .i64 (pl9 F.GG j + (l : Int))))
      subst e1
      have u1 : IntKind.i64.wrap ((j : Int) + 1) = (j : Int) + 1 := IntWalk.i64_in _ (by omega)
      have hp0 : 0 ≤ pl9 F.GG j := hple.1
      have hsuml : pl9 F.GG j + (l : Int) ≤ 140737488355328 := by omega
      have hqr : ¬ b = q ∨ True := .inr trivial
      generalize pl9 F.GG j = p at *
      have hLp := Lib.hid hl
      have hNX := Lib.hid hnx
      clear hO hKB hS hT hl hnx hqr hple hple2 hjL hsmm
      go_wp2_with fail
      go_roundw
      case rel => exact ⟨j + 1, by omega, by go_num, hput.out, hkb.out, hsn.out⟩
      case measure => simp [intOf]; omega
    · obtain rfl : j = N := by omega
      have hjn' : ¬ (j : Int) < (j : Int) := by omega
      have hA := hO
      rw [HN.out, plG_all] at hA
      go_wp2_with fail
      go_ret
      exact ⟨_, _, rfl, by rw [HN.out]; exact hA, hS⟩
end Go.Proofs.YteckkcpnfeoehaaGreatDoor
