/-
  Layer 9: all tables, with those that are made.
-/
import Derived.Test.YteckkcpnfeoehaaGreatDoorMpY
namespace Go.Proofs.YteckkcpnfeoehaaGreatDoor
set_option maxRecDepth 100000
open Go.RowKit Go.ChangeShapes Go.WideShapes Go.Deep
set_option linter.unusedVariables false
set_option linter.unusedSimpArgs false

theorem plA_rd {w : World} {B : Nat} {A : Option Addr} {GG : List (List Int)} (h : RdI w B A (plA GG)) : Rd w B A (GG.length + 1) (I64L (pl9 GG)) := by
  have h1 := rdi_rd' h (plA_len GG).symm
  refine h1.congr fun j hj => ?_
  have : fnL (plA GG) j = pl9 GG j := by
    unfold fnL plA
    rw [List.getD_eq_getElem?_getD, List.getElem?_map, List.getElem?_range hj]; rfl
  simp only [I64L, IntRow, this]
theorem pl9_in (GG : List (List Int)) (h : sumB GG ≤ 140737488355328) (j : Nat) : In64 (pl9 GG j) := by
  have := pl9_le GG j; unfold In64; omega
/-- The bytes of the places; of the metrics. -/
theorem locw (l : Bool) (A : Option Addr) (c N : Nat) (GG : List (List Int)) (hN : N = GG.length + 1) (w : World) (h : RdI w w.heap.size A (plA GG)) (hs : sumB GG ≤ 140737488355328) (hg : GG.length ≤ 70000) :
    Calls Tryz.prog 59 #[.slice A N c, .bool l] w fun e w' => ∃ A' c', e = .returned (.tuple #[.slice A' (wrN l (pl9 GG) (GG.length + 1)) c', .int .i64 (wrE l (pl9 GG) (GG.length + 1))]) ∧ RdB w' w'.heap.size A' ((List.range (wrN l (pl9 GG) (GG.length + 1))).map (wrF l (pl9 GG))) ∧ Since w w' := by
  subst hN
  have hn : (GG.length + 1) * 8 ≤ 140737488355328 := by omega
  have h2 := plA_rd h
  have hf : ∀ j, j < GG.length + 1 → In64 (pl9 GG j) := fun j _ => pl9_in GG hs j
  have key : ∀ {e w'}, WrPost l (pl9 GG) (GG.length + 1) w e w' → ∃ A' c', e = .returned (.tuple #[.slice A' (wrN l (pl9 GG) (GG.length + 1)) c', .int .i64 (wrE l (pl9 GG) (GG.length + 1))]) ∧ RdB w' w'.heap.size A' ((List.range (wrN l (pl9 GG) (GG.length + 1))).map (wrF l (pl9 GG))) ∧ Since w w' := by
    rintro e w' ⟨A', c', rfl, hO, hS⟩
    exact ⟨A', c', rfl, rdb_map (own_rd hO).2.1, hS⟩
  cases l
  · exact (lo_write2 A (GG.length + 1) c (pl9 GG) w hn hf h2).mono fun _ _ => key
  · exact (lo_write4 A (GG.length + 1) c (pl9 GG) w hn hf h2).mono fun _ _ => key
theorem ownI_rd {w : World} {base n c : Nat} {A : Option Addr} {L : List Int} (h : OwnI w base (.slice A n c) L) : RdI w w.heap.size A L := by
  obtain ⟨A', c', e, _, hr⟩ := OwnG.rd (by omega) inL_len h
  injection e with e1
  rw [e1]; exact hr
theorem mem_with {TT : List Tb} {T U : Tb} (h : U ∈ withT TT T) : U = T ∨ U ∈ TT := by
  unfold withT at h
  split at h
  · rcases List.mem_or_eq_of_mem_set h with h | h
    · exact .inr h
    · exact .inl h
  · split at h
    · rw [List.mem_append, List.mem_cons] at h
      rcases h with h | h | h
      · exact .inr (List.mem_of_mem_take h)
      · exact .inl h
      · exact .inr (List.mem_of_mem_drop h)
    · rw [List.mem_append, List.mem_singleton] at h
      exact h.symm
theorem len_with (TT : List Tb) (T : Tb) : (withT TT T).length ≤ TT.length + 1 := by
  unfold withT
  split
  · rw [List.length_set]; omega
  · split
    · rw [List.length_append, List.length_cons, List.length_take, List.length_drop]; omega
    · simp
theorem few_with {TT : List Tb} {T : Tb} (h : FewT TT) (hl : TT.length ≤ 1000) (hd : T.data.length ≤ 1000000) (hs : T.tag.size ≤ maxLen) : FewT (withT TT T) := by
  have := len_with TT T
  refine ⟨by omega, fun U hU => ?_⟩
  rcases mem_with hU with rfl | hU
  · exact ⟨hd, hs⟩
  · exact h.2 U hU
theorem few_nogr {F : Fn9} (h : NoGr F) : FewT F.TT := ⟨by have := h.tabs; omega, fun T hT => ⟨by have := (h.dats T hT).1; omega, by have := (h.dats T hT).2; simp only [maxLen]; omega⟩⟩
theorem locB_len (F : Fn9) : (locB F).length = wrN F.h.l (pl9 F.GG) (F.GG.length + 1) := by unfold locB; simp
theorem hmtB_len (F : Fn9) : (hmtB F).length = pmN (mtX F.MM) (mtY F.MM) F.MM.length F.ct := by unfold hmtB; simp
theorem locB_few {F : Fn9} (h : NoGr F) : (locB F).length ≤ 1000000 := by
  rw [locB_len]
  unfold wrN wide4
  have := h.glys
  split
  · split <;> omega
  · omega
theorem hmtB_few {F : Fn9} (h : NoGr F) : (hmtB F).length ≤ 1000000 := by
  rw [hmtB_len]
  unfold pmN
  have := h.mets
  split
  · have := pmP_le F.ct.toNat F.MM.length; omega
  · omega
theorem locB_bytes (F : Fn9) : Bytes (locB F) := bytes_map fun j _ => byte_rangeL _ _ _
theorem hmtB_bytes (F : Fn9) : Bytes (hmtB F) := bytes_map fun j _ => pmF_range _ _ _ j
theorem flat_bytes {GG : List (List Int)} (h : ∀ L, L ∈ GG → Bytes L) : Bytes GG.flatten := fun v hv => by
  obtain ⟨L, hL, hv⟩ := List.mem_flatten.1 hv
  exact h L hL v hv
theorem metw (Am : Option Addr) (cm : Nat) (F : Fn9) (n : Nat) (hn : n = F.MM.length) (w : World) (h : Rd w w.heap.size Am (F.MM.length * 2) (MtV (mtX F.MM) (mtY F.MM))) (hW : ∀ j, j < F.MM.length → In64 (mtX F.MM j) ∧ In64 (mtY F.MM j)) (hl : F.MM.length ≤ maxLen) :
    Calls Tryz.prog 60 #[.slice Am n cm, .int .i64 F.ct] w fun e w' => ∃ A' c', e = .returned (.tuple #[.slice A' (hmtB F).length c', .int .i64 (hmtE F)]) ∧ RdB w' w'.heap.size A' (hmtB F) ∧ Since w w' := by
  subst hn
  refine (lo_putmetrics Am F.MM.length cm (mtX F.MM) (mtY F.MM) F.ct w h hW hl).mono ?_
  rintro e w' ⟨A', c', rfl, hr, hS⟩
  exact ⟨A', c', by rw [hmtB_len]; rfl, rdb_map hr, hS⟩
theorem locw9 (F : Fn9) (A : Option Addr) (c N : Nat) (hN : N = F.GG.length + 1) (w : World) (h : RdI w w.heap.size A (plA F.GG)) (hs : sumB F.GG ≤ 140737488355328) (hg : F.GG.length ≤ 70000) :
    Calls Tryz.prog 59 #[.slice A N c, .bool F.h.l] w fun e w' => ∃ A' c', e = .returned (.tuple #[.slice A' (locB F).length c', .int .i64 (locE F)]) ∧ RdB w' w'.heap.size A' (locB F) ∧ Since w w' := by
  rw [locB_len]
  exact locw F.h.l A c N F.GG hN w h hs hg
/-- A font's cells as an array, written out. -/
abbrev fnA (x : Fh) (nt : Nat) (h : Hd9) (m : Mx9) (nm : Nat) (ct : Int) (ng : Nat) : Array Value := #[.slice x.At nt x.ct, .int .i64 h.em, .int .i64 h.a, .int .i64 h.b, .int .i64 h.c, .int .i64 h.d, .bool h.l, .int .i64 m.g, .int .i64 m.p, .int .i64 m.c, .int .i64 m.q, .int .i64 m.r, .int .i64 m.e, .int .i64 m.d, .slice x.Am nm x.cm, .int .i64 ct, .slice x.Ag ng x.cg]
def TabP (F : Fn9) (w : World) (e : Ending) (w' : World) : Prop := ∃ v, e = .returned (.tuple #[v, .int .i64 (allE F)]) ∧ OwnT w' w.heap.size v (if allE F = 0 then all9 F else []) ∧ Since w w'
theorem tab_no {F : Fn9} {w w' : World} {x : Int} (hx : allE F = x) (h0 : x ≠ 0) (hS : Since w w') : TabP F w (.returned (.tuple #[.slice none 0 0, .int .i64 x])) w' :=
  ⟨_, by rw [hx], by rw [if_neg (by rw [hx]; exact h0)]; exact OwnT.nil _ _, hS⟩
set_option maxRecDepth 1000000 in
set_option maxHeartbeats 32000000 in
theorem fn_tables (x : Fh) (F : Fn9) (C : Array Value) (hC : C = fnV x F) (w : World) (hR : FnR w w.heap.size x F) (hG : NoGr F) (hW : FnW F) (hgc : F.GG.length ≤ x.cg) :
    Calls Tryz.prog 25 #[.agg C] w (TabP F w) := by
  obtain ⟨xAt, xct, xAm, xcm, xAg, xcg⟩ := x
  have hT : RdTL w w.heap.size xAt F.TT := hR.tabs
  have hM : Rd w w.heap.size xAm (F.MM.length * 2) (MtV (mtX F.MM) (mtY F.MM)) := hR.mets
  have hQ : RdBL w w.heap.size xAg F.GG := hR.glys
  have hgc : F.GG.length ≤ xcg := hgc
  have hg1 := hG.glys
  have hg2 := hG.sumG
  have hg3 := hG.mets
  have hg4 := hG.tabs
  have HBX := Lib.hid (fun (t : TypeId) => (fn_box (x := ⟨xAt, xct, xAm, xcm, xAg, xcg⟩) (nt := F.TT.length) (h := F.h) (m := F.m) (nm := F.MM.length) (ct := F.ct) (ng := F.GG.length) w w.heap.size rfl t))
  have HC := Lib.hid (show C = (fnC ⟨xAt, xct, xAm, xcm, xAg, xcg⟩ F.TT.length F.h F.m F.MM.length F.ct F.GG.length).toArray from hC)
  have HP := Lib.hid (fun (w2 : World) (h2 : Since w w2) => fn_places ⟨xAt, xct, xAm, xcm, xAg, xcg⟩ F (fnA ⟨xAt, xct, xAm, xcm, xAg, xcg⟩ F.TT.length F.h F.m F.MM.length F.ct F.GG.length) rfl w2 (hQ.on h2) (by omega) (by omega))
  unfold fnA at HP
  have HLW := Lib.hid (fun (A : Option Addr) (c N : Nat) (w2 : World) (hN : N = F.GG.length + 1) (h : RdI w2 w2.heap.size A (plA F.GG)) => locw9 F A c N hN w2 h (by omega) (by omega))
  have HMW := Lib.hid (fun (w2 : World) (h2 : Since w w2) => metw xAm xcm F F.MM.length rfl w2 (hM.on h2) hW.mets (by simp only [maxLen]; omega))
  have hf0 := few_nogr hG
  have HW1 := Lib.hid (fun (A : Option Addr) (d : Nat) (w2 : World) (h2 : Since w w2) (hr : RdB w2 w2.heap.size A (locB F)) => sf_with xAt F.TT.length xct F.TT tgLoca A (locB F).length d (locB F) w2 (hT.on h2) rfl hf0 (by omega) hr rfl (locB_few hG))
  have hf1 := few_with (T := ⟨tgLoca, locB F⟩) hf0 (by omega) (locB_few hG) (show tgLoca.size ≤ maxLen by decide)
  have hl1 := len_with F.TT ⟨tgLoca, locB F⟩
  have HJ := Lib.hid (fun (w2 : World) (h2 : Since w w2) => fn_join xAg F.GG.length xcg F.GG w2 (hQ.on h2) rfl hgc hW.glys (by omega) (by omega))
  have HW2 := Lib.hid (fun (A : Option Addr) (N c : Nat) (B : Option Addr) (d : Nat) (w2 : World) (h : RdTL w2 w2.heap.size A (withT F.TT ⟨tgLoca, locB F⟩)) (hN : N = (withT F.TT ⟨tgLoca, locB F⟩).length) (hr : RdB w2 w2.heap.size B F.GG.flatten) => sf_with A N c _ tgGlyf B F.GG.flatten.length d F.GG.flatten w2 h hN hf1 (by omega) hr rfl (by rw [flat_len]; omega))
  have hf2 := few_with (T := ⟨tgGlyf, F.GG.flatten⟩) hf1 (by omega) (by show F.GG.flatten.length ≤ 1000000; rw [flat_len]; omega) (show tgGlyf.size ≤ maxLen by decide)
  have hl2 := len_with (withT F.TT ⟨tgLoca, locB F⟩) ⟨tgGlyf, F.GG.flatten⟩
  have HW3 := Lib.hid (fun (A : Option Addr) (N c : Nat) (B : Option Addr) (d : Nat) (w2 : World) (h : RdTL w2 w2.heap.size A (withT (withT F.TT ⟨tgLoca, locB F⟩) ⟨tgGlyf, F.GG.flatten⟩)) (hN : N = (withT (withT F.TT ⟨tgLoca, locB F⟩) ⟨tgGlyf, F.GG.flatten⟩).length) (hr : RdB w2 w2.heap.size B (hmtB F)) => sf_with A N c _ tgHmtx B (hmtB F).length d (hmtB F) w2 h hN hf2 (by omega) hr rfl (hmtB_few hG))
  have HE : Hid (allE F = if locE F ≠ 0 then locE F else hmtE F) := Lib.hid rfl
  have HALL := Lib.hid (show all9 F = withT (withT (withT F.TT ⟨tgLoca, locB F⟩) ⟨tgGlyf, F.GG.flatten⟩) ⟨tgHmtx, hmtB F⟩ from rfl)
  obtain ⟨T1, hT1⟩ : ∃ T1, T1 = withT F.TT ⟨tgLoca, locB F⟩ := ⟨_, rfl⟩
  rw [← hT1] at HW1 HW2 HW3 HALL
  obtain ⟨T2, hT2⟩ : ∃ T2, T2 = withT T1 ⟨tgGlyf, F.GG.flatten⟩ := ⟨_, rfl⟩
  rw [← hT2] at HW2 HW3 HALL
  obtain ⟨E1, hE1⟩ : ∃ E, E = locE F := ⟨_, rfl⟩
  obtain ⟨E2, hE2⟩ : ∃ E, E = hmtE F := ⟨_, rfl⟩
  rw [← hE1] at HLW HE
  rw [← hE2] at HMW HE
  obtain ⟨P1, hP1⟩ : ∃ P, P = locB F := ⟨_, rfl⟩
  obtain ⟨P2, hP2⟩ : ∃ P, P = hmtB F := ⟨_, rfl⟩
  obtain ⟨P3, hP3⟩ : ∃ P, P = F.GG.flatten := ⟨_, rfl⟩
  rw [← hP1] at HLW HW1
  rw [← hP2] at HMW HW3 HALL
  rw [← hP3] at HJ HW2
  clear hC hR hT hM hQ hg1 hg2 hg3 hg4 hf0 hf1 hf2 hl1 hl2 hT1 hT2 hE1 hE2 hP1 hP2 hP3 hG hW hgc
  obtain ⟨ll, hll⟩ : ∃ l, l = F.h.l := ⟨_, rfl⟩
  rw [← hll] at HLW
  have HLL := Lib.hid hll
  clear hll
  go_enter Tryz.func25, Tryz.ntmps25
  go_upto_region 1 with fail
  refine wp_named fun w1 hw1 => ?_
  have hS1 : Since w w1 := by subst hw1; (repeat (first | with_reducible (exact Since.refl _) | with_reducible assumption | with_reducible (refine Since.drew ?_) | with_reducible (refine Since.drewN ?_ _) | with_reducible (refine Since.alloc ?_ _) | (with_reducible (refine Since.setCell ?_ ?_ _); rotate_left; focus (first | (simp; done) | (simp; omega) | omega)) | (with_reducible (refine Since.trans ?_ (by with_reducible assumption)))))
  have HB1 := Lib.hid (show BoxL w1 w.heap.size (fnC ⟨xAt, xct, xAm, xcm, xAg, xcg⟩ F.TT.length F.h F.m F.MM.length F.ct F.GG.length) by subst hw1; rw [HC.out]; exact HBX.out _)
  clear hw1 HBX
  have hld := fun (w2 : World) (h2 : Since w1 w2) => (by rw [HC.out]; exact fn_load (HB1.out.since h2) : (Instr.loadAt 30 (.pointer (some ⟨w.heap.size, 0, none⟩))).run Tryz.prog w2 = .ok (.agg C) w2)
  obtain ⟨f0, ⟨f1, f2, f3, f4, f5, f6⟩, ⟨f7, f8, f9, fa, fb, fc, fd⟩, fe, ff, fg⟩ := fn_cells HB1.out
  simp only [← HLL.out] at f6 HP
  have HLD := Lib.hid hld
  clear hld
  go_cut [4, 5] (fun v y w2 => ∃ A2 c2, v = .slice A2 P1.length c2 ∧ y = .int .i64 E1 ∧ RdB w2 w2.heap.size A2 P1 ∧ Since w w2 ∧ Since w1 w2)
  case first =>
    go_region_with (first | (go_at_call 12; (with_reducible refine (HP.out _ (by (repeat (first | with_reducible (exact Since.refl _) | with_reducible assumption | with_reducible (refine Since.drew ?_) | with_reducible (refine Since.drewN ?_ _) | with_reducible (refine Since.alloc ?_ _) | (with_reducible (refine Since.setCell ?_ ?_ _); rotate_left; focus (first | (simp; done) | (simp; omega) | omega)) | (with_reducible (refine Since.trans ?_ (by with_reducible assumption))))))).mono ?_); rintro e w2 ⟨A2, c2, rfl, hO2, hS2⟩; have d6 : w2.cell? ⟨w.heap.size, 6, none⟩ = some (.bool ll) := (by rw [HLL.out]; exact (HB1.out.since (by (repeat (first | with_reducible (exact Since.refl _) | with_reducible assumption | with_reducible (refine Since.drew ?_) | with_reducible (refine Since.drewN ?_ _) | with_reducible (refine Since.alloc ?_ _) | (with_reducible (refine Since.setCell ?_ ?_ _); rotate_left; focus (first | (simp; done) | (simp; omega) | omega)) | (with_reducible (refine Since.trans ?_ (by with_reducible assumption))))))).cell 6 rfl); have hr2 := ownI_rd hO2) | (go_at_call 59; (with_reducible refine (HLW.out _ _ _ _ rfl (by first | exact hr2 | exact RdG.on hr2 (by (repeat (first | with_reducible (exact Since.refl _) | with_reducible assumption | with_reducible (refine Since.drew ?_) | with_reducible (refine Since.drewN ?_ _) | with_reducible (refine Since.alloc ?_ _) | (with_reducible (refine Since.setCell ?_ ?_ _); rotate_left; focus (first | (simp; done) | (simp; omega) | omega)) | (with_reducible (refine Since.trans ?_ (by with_reducible assumption)))))))).mono ?_); rintro e w3 ⟨A3, c3, rfl, hr3, hS3⟩))
    all_goals go_wp2_with fail
    all_goals go_meet
    all_goals exact ⟨_, _, rfl, rfl, hr3, by (repeat (first | with_reducible (exact Since.refl _) | with_reducible assumption | with_reducible (refine Since.drew ?_) | with_reducible (refine Since.drewN ?_ _) | with_reducible (refine Since.alloc ?_ _) | (with_reducible (refine Since.setCell ?_ ?_ _); rotate_left; focus (first | (simp; done) | (simp; omega) | omega)) | (with_reducible (refine Since.trans ?_ (by with_reducible assumption))))), by (repeat (first | with_reducible (exact Since.refl _) | with_reducible assumption | with_reducible (refine Since.drew ?_) | with_reducible (refine Since.drewN ?_ _) | with_reducible (refine Since.alloc ?_ _) | (with_reducible (refine Since.setCell ?_ ?_ _); rotate_left; focus (first | (simp; done) | (simp; omega) | omega)) | (with_reducible (refine Since.trans ?_ (by with_reducible assumption)))))⟩
  case rest =>
    obtain ⟨A2, c2, rfl, rfl, hr2, hS2, hS12⟩ := hcut
    clear f0 f1 f2 f3 f4 f5 f6 f7 f8 f9 fa fb fc fd fe ff fg HP HLW HLD
    by_cases h1 : E1 = 0
    · by_cases h2 : E2 = 0
      · subst h1
        subst h2
        have hE := Lib.hid (show allE F = 0 by rw [HE.out]; simp)
        clear HE
        have hB2 := HB1.out.since hS12
        have c14 := hB2.cell 14 (v := .slice xAm F.MM.length xcm) rfl
        have c15 := hB2.cell 15 (v := .int .i64 F.ct) rfl
        go_wp2_with (first | (go_at_call 60; (with_reducible refine (HMW.out _ hS2).mono ?_); rintro e w3 ⟨A3, c3, rfl, hr3, hS3⟩; have hS3w := hS2.trans hS3; have hB3 := hB2.since hS3; have d0 := hB3.cell 0 (v := .slice xAt F.TT.length xct) rfl; have k2 := RdG.on hr2 hS3) | (go_at_call 48; (with_reducible refine (HW1.out _ _ _ hS3w k2).mono ?_); rintro e w4 ⟨v4, rfl, hO4, hS4⟩; obtain ⟨A4, c4, rfl, _, hR4⟩ := hO4.rd; have hS4w := hS3w.trans hS4; have hB4 := hB3.since hS4; have d16 := hB4.cell 16 (v := .slice xAg F.GG.length xcg) rfl; have k3 := RdG.on hr3 hS4) | (go_at_call 61; (with_reducible refine (HJ.out _ hS4w).mono ?_); rintro e w5 ⟨A5, c5, rfl, hr5, hS5⟩; have hS5w := hS4w.trans hS5; have hR5 := hR4.on hS5; have k4 := RdG.on k3 hS5) | (go_at_call 48; (with_reducible refine (HW2.out _ _ _ _ _ _ hR5 rfl hr5).mono ?_); rintro e w6 ⟨v6, rfl, hO6, hS6⟩; obtain ⟨A6, c6, rfl, _, hR6⟩ := hO6.rd; have hS6w := hS5w.trans hS6; have k5 := RdG.on k4 hS6) | (go_at_call 48; (with_reducible refine (HW3.out _ _ _ _ _ _ hR6 rfl k5).mono ?_); rintro e w7 ⟨v7, rfl, hO7, hS7⟩))
        go_ret2
        refine ⟨_, by rw [hE.out]; rfl, ?_, hS6w.trans hS7⟩
        rw [hE.out, if_pos rfl, HALL.out]
        exact hO7.low hS6w.below.size
      · subst h1
        have hE := Lib.hid (show allE F = E2 by rw [HE.out]; simp)
        have dx : (E2 == 0) = false := by simpa using h2
        have HX := Lib.hid h2
        clear HE h2
        have hB2 := HB1.out.since hS12
        have c14 := hB2.cell 14 (v := .slice xAm F.MM.length xcm) rfl
        have c15 := hB2.cell 15 (v := .int .i64 F.ct) rfl
        go_wp2_with (go_at_call 60; (with_reducible refine (HMW.out _ hS2).mono ?_); rintro e w3 ⟨A3, c3, rfl, hr3, hS3⟩; have hS3w := hS2.trans hS3)
        go_ret2
        exact tab_no hE.out HX.out hS3w
    · have hE := Lib.hid (show allE F = E1 by rw [HE.out, if_pos h1])
      have dx : (E1 == 0) = false := by simpa using h1
      have HX := Lib.hid h1
      clear HE h1
      go_wp2_with fail
      go_ret2
      exact tab_no hE.out HX.out hS2
end Go.Proofs.YteckkcpnfeoehaaGreatDoor
