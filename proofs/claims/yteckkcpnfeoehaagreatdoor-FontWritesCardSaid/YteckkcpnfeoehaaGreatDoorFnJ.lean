/-
  Layer 9: the glyphs' bytes out of a table of them.
-/
import Derived.Test.YteckkcpnfeoehaaGreatDoorFnI
namespace Go.Proofs.YteckkcpnfeoehaaGreatDoor
set_option maxRecDepth 100000
open Go.RowKit Go.ChangeShapes Go.WideShapes Go.Deep
set_option linter.unusedVariables false
set_option linter.unusedSimpArgs false

theorem hcells_set : ∀ (hs : List Hd) (j : Nat) (x : Hd), (cellsG hdL hs).set j (.slice x.A x.n x.c) = cellsG hdL (hs.set j x)
  | [], _, _ => rfl
  | a :: r, 0, x => by simp [cellsG, hdL]
  | a :: r, j + 1, x => by
    have := hcells_set r j x
    simp only [cellsG, List.flatMap_cons, hdL, List.cons_append, List.nil_append, List.set_cons_succ] at this ⊢
    rw [this]
theorem OwnG.hput {t : TypeId} {w : World} {base q n c : Nat} {hs : List Hd} (h : OwnG t 1 hdL w base (.slice (some ⟨q, 0, none⟩) n c) hs) (i : Nat) (x : Hd) :
    OwnG t 1 hdL (w.setCell ⟨q, i, none⟩ (.slice x.A x.n x.c)) base (.slice (some ⟨q, 0, none⟩) n c) (hs.set i x) := by
  have hn : n = hs.length := by
    rcases h.2 with ⟨h0, _⟩ | ⟨g, cap, cur, h0, _⟩
    · cases h0
    · injection h0 with _ h1 _
  subst hn
  have h3 := (World.ownsRow.stored h i (.slice x.A x.n x.c)).1
  rw [hcells_set] at h3
  unfold OwnG
  rw [List.length_set]
  exact h3
theorem OwnBL.put {w : World} {base g n c : Nat} {GG : List (List Int)} (h : OwnBL w base (.slice (some ⟨g, 0, none⟩) n c) GG) {j : Nat} (hj : j < GG.length) {A' : Option Addr} {n' c' : Nat} {L : List Int} (hrow : OwnB w base (.slice A' n' c') L) :
    OwnBL (w.setCell ⟨g, j, none⟩ (.slice A' n' c')) base (.slice (some ⟨g, 0, none⟩) n c) (GG.set j L) := by
  obtain ⟨hs, hl, ho, hK⟩ := h
  have hne : 34 ≠ 5 := by decide
  have hk : ∀ {v : Value} {M : List Int}, OwnB w base v M → OwnB (w.setCell ⟨g, j, none⟩ (.slice A' n' c')) base v M := fun {v M} hM => by
    refine OwnG.near hM ((Nigh.refl g w).set j _) ?_
    exact own_apart ho hM hne rfl
  refine ⟨hs.set j ⟨A', n', c'⟩, by simp [hl], ho.hput j ⟨A', n', c'⟩, fun i x M h1 h2 => ?_⟩
  by_cases hij : j = i
  · subst hij
    rw [List.getElem?_set_self (by omega)] at h1 h2
    injection h1 with h1
    injection h2 with h2
    subst h1 h2
    exact hk hrow
  · rw [List.getElem?_set_ne hij] at h1 h2
    exact hk (hK i x M h1 h2)
theorem infoBs2 : ∃ i z, Tryz.prog.info? 34 = some i ∧ i.zero = some z ∧ i.size = 1 ∧ i.bytes = 24 ∧ z.cells.toList = hdL ⟨none, 0, 0⟩ := by
  obtain ⟨i0, hi, hz0, hz1, hz2⟩ := info_parts infoBs0
  exact ⟨i0, _, hi, hz0, hz1, hz2, rfl⟩
theorem OwnBL.made {w : World} {base : Nat} {v : Value} {n : Nat} (h : OwnG 34 1 hdL w base v (List.replicate n ⟨none, 0, 0⟩)) : OwnBL w base v (List.replicate n []) :=
  ⟨_, by simp, h, fun j x L h1 h2 => by
    rw [List.getElem?_replicate] at h1 h2
    split at h1
    · injection h1 with h1
      rw [if_pos (by assumption)] at h2
      injection h2 with h2
      subst h1 h2
      exact OwnG.nil _ _ _ _ _
    · cases h1⟩
theorem OwnBL.cell {w : World} {base g n c : Nat} {GG : List (List Int)} (h : OwnBL w base (.slice (some ⟨g, 0, none⟩) n c) GG) {j : Nat} (hj : j < GG.length) : (∃ A m k, w.cell? ⟨g, j, none⟩ = some (.slice A m k)) ∧ w.frozen? ⟨g, j, none⟩ = false ∧ base ≤ g ∧ g < w.heap.size := by
  obtain ⟨hs, hl, ho, hK⟩ := h
  have hlt := ho.lt (g := g) rfl
  obtain ⟨A, c', e, _, hr⟩ := OwnG.rd (by omega) hdL_len ho
  injection e with e1
  obtain ⟨b, o, e2, _, hc⟩ := hr (by omega)
  rw [← e1] at e2
  injection e2 with e2
  injection e2 with e2 e3
  subst e2
  have hn : n = hs.length := by
    rcases ho.2 with ⟨h0, _⟩ | ⟨g', cap, cur, h0, _⟩
    · cases h0
    · injection h0 with _ h1 _
  subst hn
  have := hc j _ (List.getElem?_eq_getElem (by omega)) 0 (by omega)
  rw [← e3, Nat.mul_one, Nat.add_zero, Nat.zero_add] at this
  exact ⟨⟨_, _, _, this⟩, World.ownsRow.frozenAt ho j, hlt⟩
/-- A part of bytes that read, as the walk writes it. -/
theorem rdb_sub {w : World} {Bd d lo k : Nat} {B : Option Addr} {D : List Int} (h : RdB w Bd B D) (hd : D.length ≤ d) (hk : lo + k ≤ D.length) : RdB w Bd (if d = lo then B else B.map (·.add lo)) (cutL D lo k) := by
  refine rdb_of (n := k) (f := fun j => fnL D (lo + j)) ?_ (cutL_len hk).symm (fun j hj => (cutL_get hj).symm)
  exact (rdb_rd h).drop hk hd
theorem slice_run (w : World) (B : Option Addr) (m d : Nat) (lo hi : Int) (h0 : 0 ≤ lo) (h1 : lo ≤ hi) (h2 : hi ≤ d) : (Instr.sliceAt 34 (.slice B m d) (some (.int .i64 lo)) (some (.int .i64 hi)) none).run Tryz.prog w = .ok (.slice (if d = lo.toNat then B else B.map (·.add lo.toNat)) (hi.toNat - lo.toNat) (d - lo.toNat)) w := by
  have hu := Tryz.underlying34
  simp [go_sem, h0, h1, h2]
def GlyP (P D : List Int) (l : Bool) (g : Int) (w : World) (e : Ending) (w' : World) : Prop := ∃ v, e = .returned (.tuple #[v, .int .i64 (glyE P D l g)]) ∧ OwnBL w' w.heap.size v (if glyE P D l g = 0 then glyG P D l g.toNat else []) ∧ Since w w'
theorem gly_no {P D : List Int} {l : Bool} {g x : Int} {w w' : World} (hx : glyE P D l g = x) (h0 : x ≠ 0) (hS : Since w w') : GlyP P D l g w (.returned (.tuple #[.slice none 0 0, .int .i64 x])) w' :=
  ⟨_, by rw [hx], by rw [if_neg (by rw [hx]; exact h0)]; exact OwnBL.nil _ _, hS⟩
theorem gly_yes {P D : List Int} {l : Bool} {g : Int} {w w' : World} {v : Value} (hx : glyE P D l g = 0) (hO : OwnBL w' w.heap.size v (glyG P D l g.toNat)) (hS : Since w w') : GlyP P D l g w (.returned (.tuple #[v, .int .i64 0])) w' :=
  ⟨_, by rw [hx], by rw [if_pos hx]; exact hO, hS⟩
def gl1 (P D : List Int) (l : Bool) (i : Nat) : List Int := cutL D (lcV (fnL P) l i).toNat ((lcV (fnL P) l (i + 1)).toNat - (lcV (fnL P) l i).toNat)
def glJ (P D : List Int) (l : Bool) (n j : Nat) : List (List Int) := (List.range n).map (fun i => if i < j then gl1 P D l i else [])
theorem glJ_len (P D : List Int) (l : Bool) (n j : Nat) : (glJ P D l n j).length = n := by unfold glJ; simp
theorem glJ_zero (P D : List Int) (l : Bool) (n : Nat) : glJ P D l n 0 = List.replicate n [] := by
  unfold glJ
  rw [List.eq_replicate_iff]
  refine ⟨by simp, fun b hb => ?_⟩
  rw [List.mem_map] at hb
  obtain ⟨i, _, rfl⟩ := hb
  rw [if_neg (by omega)]
theorem glJ_all (P D : List Int) (l : Bool) (n : Nat) : glJ P D l n n = glyG P D l n := by
  unfold glJ glyG
  refine List.map_congr_left fun i hi => ?_
  rw [List.mem_range] at hi
  rw [if_pos hi]; rfl
theorem glJ_next (P D : List Int) (l : Bool) {n j : Nat} (hj : j < n) : (glJ P D l n j).set j (gl1 P D l j) = glJ P D l n (j + 1) := by
  apply List.ext_getElem?
  intro i
  rw [List.getElem?_set]
  unfold glJ
  rw [List.getElem?_map, List.getElem?_map, List.length_map, List.length_range]
  by_cases h : i < n
  · rw [List.getElem?_range h]
    simp only [Option.map_some]
    by_cases e : j = i
    · subst e; rw [if_pos rfl, if_pos h, if_pos (by omega)]
    · rw [if_neg e]
      by_cases h2 : i < j
      · rw [if_pos h2, if_pos (by omega)]
      · rw [if_neg h2, if_neg (by omega)]
  · rw [List.getElem?_eq_none (by simpa using h)]
    simp only [Option.map_none]
    split
    · exfalso; omega
    · rfl
theorem locr (l : Bool) (A : Option Addr) (c : Nat) (P : List Int) (g : Int) (w : World) (h : RdB w w.heap.size A P) (hb : Bytes P) (hg : In64 g) (hn : P.length ≤ 140737488355328) :
    Calls Tryz.prog 102 #[.slice A P.length c, .bool l, .int .i64 g] w (RdPost (fnL P) P.length l g w) := by
  cases l
  · exact lo_read2 A P.length c (fnL P) g w (rdb_rd h) (bytes_fn hb) hg hn
  · exact lo_read4 A P.length c (fnL P) g w (rdb_rd h) (bytes_fn hb) hg hn
/-- Places that are read rise from nought. -/
theorem lc_rise {P : List Int} (hb : Bytes P) {l : Bool} {g : Nat} (h : rdE (fnL P) P.length l (g : Int) = 0) : ∀ i, i < g → 0 ≤ lcV (fnL P) l i ∧ lcV (fnL P) l i ≤ lcV (fnL P) l (i + 1) ∧ lcV (fnL P) l (i + 1) ≤ lcV (fnL P) l g := by
  unfold rdE at h
  split at h
  · cases h
  · split at h
    · cases h
    · split at h
      · rename_i h1 h2 h3
        rw [Int.toNat_natCast] at h3
        have ha := fun j (hj : j < g + 1) => allB_iff.1 h3 j hj
        have hw : wide4 l * (g + 1) ≤ P.length := by
          have h4 : ¬ ((P.length : Int) < ((wide4 l * (g + 1) : Nat) : Int)) := by push_cast; exact h2
          omega
        have h0 : 0 ≤ lcV (fnL P) l 0 := (lcV_range (i := 0) (n := P.length) (bytes_fn hb) (by
          have : wide4 l * 1 ≤ wide4 l * (g + 1) := Nat.mul_le_mul_left _ (by omega)
          omega)).2.2.1
        have up : ∀ j, j < g → lcV (fnL P) l j ≤ lcV (fnL P) l (j + 1) := fun j hj => by
          have := ha (j + 1) (by omega)
          rw [asc_next] at this
          exact of_decide_eq_true this
        have lo : ∀ j, j ≤ g → 0 ≤ lcV (fnL P) l j := fun j => by
          induction j with
          | zero => intro _; exact h0
          | succ j ih => intro hj; have := up j (by omega); have := ih (by omega); omega
        have hi : ∀ k j, j + k = g → lcV (fnL P) l j ≤ lcV (fnL P) l g := fun k => by
          induction k with
          | zero => intro j hj; rw [show j = g by omega]; exact Int.le_refl _
          | succ k ih => intro j hj; have := up j (by omega); have := ih (j + 1) (by omega); omega
        intro i hi'
        exact ⟨lo i (by omega), up i hi', hi (g - (i + 1)) (i + 1) (by omega)⟩
      · cases h
set_option maxRecDepth 1000000 in
set_option maxHeartbeats 32000000 in
theorem fn_glyphs (x : Fh) (nt nm ng : Nat) (h : Hd9) (m : Mx9) (ct : Int) (A B : Option Addr) (c d : Nat) (P D : List Int) (w : World) (hP : RdB w w.heap.size A P) (hD : RdB w w.heap.size B D) (hbP : Bytes P) (hlP : P.length ≤ 140737488355328) (hlD : D.length ≤ 140737488355328) (hdc : D.length ≤ d) (hg : 1 ≤ m.g ∧ m.g ≤ 1024) :
    Calls Tryz.prog 56 #[.slice A P.length c, .slice B D.length d, .agg (fnC x nt h m nm ct ng).toArray] w (GlyP P D h.l m.g w) := by
  have HBX := Lib.hid (fun (t : TypeId) => (fn_box (x := x) (nt := nt) (h := h) (m := m) (nm := nm) (ct := ct) (ng := ng) w w.heap.size rfl t))
  obtain ⟨g, hgg⟩ : ∃ g : Nat, m.g = (g : Int) := ⟨m.g.toNat, by omega⟩
  rw [hgg] at hg ⊢
  have HGG := Lib.hid hgg
  clear hgg
  obtain ⟨l, hll⟩ : ∃ l, l = h.l := ⟨_, rfl⟩
  rw [← hll]
  have HLL := Lib.hid hll
  clear hll
  have HL := Lib.hid (fun (w2 : World) (h2 : Since w w2) => locr l A c P (g : Int) w2 (hP.on h2) hbP (by unfold In64; omega) hlP)
  unfold RdPost at HL
  have HD := Lib.hid hD
  have HRI := Lib.hid (fun (hE : rdE (fnL P) P.length l (g : Int) = 0) => lc_rise hbP hE)
  have hgI : (1 : Int) ≤ (g : Int) ∧ (g : Int) ≤ 1024 := hg
  have hg1 : (g : Int) ≤ 1024 := hg.2
  have hg0 : (0 : Int) ≤ (g : Int) := by omega
  have hEQ := Lib.hid (glyE.eq_1 P D l (g : Int))
  obtain ⟨E, hE⟩ : ∃ E, E = rdE (fnL P) P.length l (g : Int) := ⟨_, rfl⟩
  have HE := Lib.hid hE
  rw [← hE] at HL HRI
  rw [← hE] at hEQ
  obtain ⟨N, hN⟩ : ∃ N, N = rdN (fnL P) P.length l (g : Int) := ⟨_, rfl⟩
  rw [← hN] at HL
  have hN2 : N = if E = 0 then g + 1 else 0 := by rw [hN, hE]; unfold rdN; rw [Int.toNat_natCast]
  obtain ⟨mm, hmm⟩ : ∃ mm, mm = D.length := ⟨_, rfl⟩
  rw [← hmm] at hdc hlD hEQ ⊢
  have HMM := Lib.hid hmm
  obtain ⟨pl, hpl⟩ : ∃ pl, pl = P.length := ⟨_, rfl⟩
  rw [← hpl] at HL ⊢
  clear hP hD hN hE hmm hpl
  by_cases h0 : E = 0
  rotate_left
  · have dE : (E == 0) = false := by simpa using h0
    have HG := Lib.hid (show glyE P D l (g : Int) = E by rw [hEQ.out, if_pos h0])
    have HZ := Lib.hid h0
    clear hEQ h0 hN2
    go_enter Tryz.func56, Tryz.ntmps56
    go_upto_region 1 with fail
    refine wp_named fun w1 hw1 => ?_
    have hS1 : Since w w1 := by subst hw1; (repeat (first | with_reducible (exact Since.refl _) | with_reducible assumption | with_reducible (refine Since.drew ?_) | with_reducible (refine Since.drewN ?_ _) | with_reducible (refine Since.alloc ?_ _) | (with_reducible (refine Since.setCell ?_ ?_ _); rotate_left; focus (first | (simp; done) | (simp; omega) | omega)) | (with_reducible (refine Since.trans ?_ (by with_reducible assumption)))))
    have hB1 : BoxL w1 w.heap.size (fnC x nt h m nm ct ng) := by subst hw1; exact HBX.out _
    have c6 : w1.cell? ⟨w.heap.size, 6, none⟩ = some (.bool l) := by rw [HLL.out]; exact hB1.cell 6 rfl
    have c7 : w1.cell? ⟨w.heap.size, 7, none⟩ = some (.int .i64 (g : Int)) := by rw [← HGG.out]; exact hB1.cell 7 rfl
    clear hw1 HBX
    go_wp2_with (go_at_call 102; (with_reducible refine (HL.out _ hS1).mono ?_); rintro e w2 ⟨A2, c2, rfl, _, _, hS2⟩)
    go_ret2
    exact gly_no HG.out HZ.out (hS1.trans hS2)
  · subst h0
    rw [if_pos rfl] at hN2
    subst hN2
    have hri := HRI.out rfl
    have HR := Lib.hid hri
    clear HRI hri
    obtain ⟨lg, hlg⟩ : ∃ v, v = lcV (fnL P) l g := ⟨_, rfl⟩
    have hEQ2 := Lib.hid (show glyE P D l (g : Int) = if (mm : Int) < lg then 3 else 0 by rw [hEQ.out, if_neg (by simp), Int.toNat_natCast, hlg])
    have HLG := Lib.hid hlg
    clear hEQ hlg
    by_cases h3 : (mm : Int) < lg
    · have HG := Lib.hid (show glyE P D l (g : Int) = 3 by rw [hEQ2.out, if_pos h3])
      have d3 : decide ((mm : Int) < lg) = true := by simpa using h3
      clear hEQ2
      go_enter Tryz.func56, Tryz.ntmps56
      go_upto_region 1 with fail
      refine wp_named fun w1 hw1 => ?_
      have hS1 : Since w w1 := by subst hw1; (repeat (first | with_reducible (exact Since.refl _) | with_reducible assumption | with_reducible (refine Since.drew ?_) | with_reducible (refine Since.drewN ?_ _) | with_reducible (refine Since.alloc ?_ _) | (with_reducible (refine Since.setCell ?_ ?_ _); rotate_left; focus (first | (simp; done) | (simp; omega) | omega)) | (with_reducible (refine Since.trans ?_ (by with_reducible assumption)))))
      have hB1 : BoxL w1 w.heap.size (fnC x nt h m nm ct ng) := by subst hw1; exact HBX.out _
      have c6 : w1.cell? ⟨w.heap.size, 6, none⟩ = some (.bool l) := by rw [HLL.out]; exact hB1.cell 6 rfl
      have c7 : w1.cell? ⟨w.heap.size, 7, none⟩ = some (.int .i64 (g : Int)) := by rw [← HGG.out]; exact hB1.cell 7 rfl
      have HB1 := Lib.hid hB1
      clear hw1 HBX hB1
      have hgl : (g : Int) < ((g + 1 : Nat) : Int) := by omega
      go_wp2_with (go_at_call 102; (with_reducible refine (HL.out _ hS1).mono ?_); rintro e w2 ⟨A2, c2, rfl, hc2, hR2, hS2⟩; obtain ⟨b2, o2, rfl, hb2, hcc⟩ := id (hR2 (Nat.succ_pos g)); have e7 : w2.cell? ⟨w.heap.size, 7, none⟩ = some (.int .i64 (g : Int)) := (by rw [← HGG.out]; exact (HB1.out.since hS2).cell 7 rfl); have eg : w2.cell? ⟨b2, o2 + g, none⟩ = some (.int .i64 lg) := (by rw [HLG.out]; exact hcc g (Nat.lt_succ_self g)); clear hcc)
      go_ret2
      exact gly_no HG.out (by omega) (hS1.trans hS2)
    · have HG := Lib.hid (show glyE P D l (g : Int) = 0 by rw [hEQ2.out, if_neg h3])
      have d3 : decide ((mm : Int) < lg) = false := by simpa using h3
      have hle : lg ≤ (mm : Int) := by omega
      clear hEQ2
      go_enter Tryz.func56, Tryz.ntmps56
      go_upto_region 1 with fail
      refine wp_named fun w1 hw1 => ?_
      have hS1 : Since w w1 := by subst hw1; (repeat (first | with_reducible (exact Since.refl _) | with_reducible assumption | with_reducible (refine Since.drew ?_) | with_reducible (refine Since.drewN ?_ _) | with_reducible (refine Since.alloc ?_ _) | (with_reducible (refine Since.setCell ?_ ?_ _); rotate_left; focus (first | (simp; done) | (simp; omega) | omega)) | (with_reducible (refine Since.trans ?_ (by with_reducible assumption)))))
      have hB1 : BoxL w1 w.heap.size (fnC x nt h m nm ct ng) := by subst hw1; exact HBX.out _
      have c6 : w1.cell? ⟨w.heap.size, 6, none⟩ = some (.bool l) := by rw [HLL.out]; exact hB1.cell 6 rfl
      have c7 : w1.cell? ⟨w.heap.size, 7, none⟩ = some (.int .i64 (g : Int)) := by rw [← HGG.out]; exact hB1.cell 7 rfl
      have HB1 := Lib.hid hB1
      clear hw1 HBX hB1
      have hgl : (g : Int) < ((g + 1 : Nat) : Int) := by omega
      go_wp2_with (first | (go_at_call 102; (with_reducible refine (HL.out _ hS1).mono ?_); rintro e w2 ⟨A2, c2, rfl, hc2, hR2, hS2⟩; obtain ⟨b2, o2, rfl, hb2, hcc⟩ := id (hR2 (Nat.succ_pos g)); have e7 : w2.cell? ⟨w.heap.size, 7, none⟩ = some (.int .i64 (g : Int)) := (by rw [← HGG.out]; exact (HB1.out.since hS2).cell 7 rfl); have eg : w2.cell? ⟨b2, o2 + g, none⟩ = some (.int .i64 lg) := (by rw [HLG.out]; exact hcc g (Nat.lt_succ_self g)); clear hcc) | (at_make; refine wpList_make_g (enc := hdL) (k := 1) (by rfl) _ _ _ 34 (by rfl) (by omega) hdL_len 24 ⟨none, 0, 0⟩ Tryz.underlying28 infoBs2 g (by rfl) (by rfl) (by omega) (by simp only [maxLen]; omega) w.heap.size (hS1.trans hS2).below.size ?_; intro w3 hO3 hg3; have hS3 : Since w2 w3 := since_grown (Since.refl w2) hg3 (fun q hq => by cases hq)))
      have hS3w := (hS1.trans hS2).trans hS3
      have hO4 : OwnBL w3 w.heap.size (.slice (some ⟨w2.heap.size, 0, none⟩) g g) (glJ P D l g 0) := by rw [glJ_zero]; exact OwnBL.made hO3
      obtain ⟨q, hq⟩ : ∃ q, q = w2.heap.size := ⟨_, rfl⟩
      have hqw : w.heap.size ≤ q := by have := (hS1.trans hS2).below.size; omega
      rw [← hq] at hO4 ⊢
      have HQ := Lib.hid (show w.heap.size ≤ q ∧ w2.heap.size ≤ q from ⟨hqw, by omega⟩)
      have HR2 := Lib.hid (show ∀ j, j < g + 1 → ∀ w', Since w2 w' → w'.cell? ⟨b2, o2 + j, none⟩ = some (.int .i64 (lcV (fnL P) l j)) from fun j hj w' h' => by
        obtain ⟨b', o', e, hb', hcc⟩ := hR2 (Nat.succ_pos g)
        injection e with e
        injection e with e1 e2
        subst e1 e2
        exact (h'.1 _ _ hb').trans (hcc j hj))
      have HB2 := Lib.hid hb2
      have HLD := Lib.hid hlD
      have HDC := Lib.hid hdc
      have HLE := Lib.hid hle
      clear hO3 hg3 hR2 hq hqw hb2 e7 eg c6 c7 hc2 hlD hdc hle
      go_loopw [41] (fun y wr => ∃ j : Nat, j ≤ g ∧ y = .int .i64 (j : Int) ∧ OwnBL wr w.heap.size (.slice (some ⟨q, 0, none⟩) g g) (glJ P D l g j) ∧ Nigh q w3 wr) (fun y _ => g - (intOf y).toNat)
      case atStart => exact ⟨0, by omega, rfl, hO4, Nigh.refl _ _⟩
      case round =>
        obtain ⟨j, hj, rfl, hO, hN⟩ := hrel
        have hSr := hN.2 w hS3w HQ.out.1
        clear hO4
        by_cases hjg : j < g
        · have hj1 : (j : Int) < (g : Int) := by omega
          have hS2r := hN.2 w2 hS3 HQ.out.2
          have a0 := HR2.out j (by omega) wr hS2r
          have a1 := HR2.out (j + 1) (by omega) wr hS2r
          obtain ⟨r0, r1, r2⟩ := HR.out j hjg
          rw [← HLG.out] at r2
          have hNX := Lib.hid (glJ_next P D l hjg)
          have hgl1 := Lib.hid (show gl1 P D l j = cutL D (lcV (fnL P) l j).toNat ((lcV (fnL P) l (j + 1)).toNat - (lcV (fnL P) l j).toNat) from rfl)
          generalize lcV (fnL P) l j = lo at *
          generalize lcV (fnL P) l (j + 1) = hi at *
          have hdc := HDC.out
          have hle := HLE.out
          have hcut : lo.toNat + (hi.toNat - lo.toNat) ≤ D.length := by rw [← HMM.out]; omega
          have hsl := fun w => slice_run w B mm d lo hi r0 r1 (by omega)
          have HCL := Lib.hid (fun (w2 : World) (h2 : Since w w2) => bt_clone (if d = lo.toNat then B else B.map (·.add lo.toNat)) (hi.toNat - lo.toNat) (d - lo.toNat) (cutL D lo.toNat (hi.toNat - lo.toNat)) w2 (rdb_sub (HD.out.on h2) (by rw [← HMM.out]; exact hdc) hcut) (cutL_len hcut).symm (by rw [cutL_len hcut]; have := HLD.out; omega))
          generalize (if d = lo.toNat then B else B.map (·.add lo.toNat)) = X at *
          obtain ⟨⟨Aq, nq, cq, hcq⟩, hfq, _, hqr⟩ := hO.cell (by rw [glJ_len]; exact hjg)
          have hb2r : b2 < wr.heap.size := World.block_lt_of_cell? wr _ a0
          have hqb : ¬ q = b2 := by have := HQ.out.2; have := HB2.out; omega
          have hjI : (0 : Int) ≤ (j : Int) := by omega
          have u1 : IntKind.i64.wrap ((j : Int) + 1) = (j : Int) + 1 := IntWalk.i64_in _ (by omega)
          have hj2 : (j : Int) + 1 < ((g + 1 : Nat) : Int) := by omega
          have hj3 : (0 : Int) ≤ (j : Int) + 1 := by omega
          have hj4 : ((j : Int) + 1).toNat = j + 1 := by omega
          have hj5 : (j : Int) < ((g + 1 : Nat) : Int) := by omega
          clear hle hdc hcut r2
          go_upto_region 10 with fail
          go_region_with (go_at_call 85; (with_reducible refine (HCL.out _ (by first | exact hSr | exact hSr.drew | exact hSr.drewN _)).mono ?_); rintro e w4 ⟨v4, rfl, hO4, hS4⟩; obtain ⟨A4, c4, rfl, _, _⟩ := hO4.rd (by omega) byL_len; have hS4r : Since wr w4 := (by first | exact hS4 | exact (((Since.refl wr).drew).trans hS4) | exact (((Since.refl wr).drewN _).trans hS4)); have k1 := (hS4r.1 _ _ hqr).trans hcq; have k2 := (hS4r.2.1 _ _ hqr).trans hfq)
          all_goals have hP : OwnBL (w4.setCell ⟨q, j, none⟩ (.slice A4 (cutL D lo.toNat (hi.toNat - lo.toNat)).length c4)) w.heap.size (.slice (some ⟨q, 0, none⟩) g g) (glJ P D l g (j + 1)) := (by rw [← hNX.out, hgl1.out]; exact OwnBL.put (hO.since hS4r) (by rw [glJ_len]; exact hjg) (OwnG.low hO4 (by first | exact hSr.below.size | exact hSr.drew.below.size)))
          all_goals have hNn := (hN.since hS4r).set j (.slice A4 (cutL D lo.toNat (hi.toNat - lo.toNat)).length c4)
          all_goals go_wp2_with fail
          all_goals go_roundw
          all_goals first | (case rel => exact ⟨j + 1, by omega, by go_num, hP, hNn⟩) | skip
          all_goals (simp [intOf]; omega)
        · obtain rfl : j = g := by omega
          have hj1 : ¬ (j : Int) < (j : Int) := by omega
          go_wp2_with fail
          go_ret2
          refine gly_yes HG.out ?_ hSr
          rw [glJ_all] at hO
          exact hO
end Go.Proofs.YteckkcpnfeoehaaGreatDoor
