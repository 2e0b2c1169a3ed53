/-
  Texts of this seat, put together: each with its own head.
-/
import Derived.Test.YteckkcpnfeoehaaGreatDoorMpP
import Derived.Test.YteckkcpnfeoehaaGreatDoorMpH
import Derived.Test.YteckkcpnfeoehaaGreatDoorMpK
import Derived.Test.YteckkcpnfeoehaaGreatDoorMpY
import Derived.Test.YteckkcpnfeoehaaGreatDoorMnAg
import Derived.Deep.QuietTactic
import Derived.BigQuiet

/-
  Layer 9: what is written is read (no walk).
-/
namespace Go.Proofs.YteckkcpnfeoehaaGreatDoor
set_option maxRecDepth 100000
open Go.RowKit Go.ChangeShapes Go.WideShapes Go.Deep
set_option linter.unusedVariables false
set_option linter.unusedSimpArgs false

theorem with_split (TT : List Tb) (T : Tb) : (∃ a U b, TT = a ++ U :: b ∧ withT TT T = a ++ T :: b ∧ eqT T.tag U = true ∧ ∀ V, V ∈ a → eqT T.tag V = false) ∨ (∃ a b, TT = a ++ b ∧ withT TT T = a ++ T :: b ∧ ∀ V, V ∈ TT → eqT T.tag V = false) := by
  unfold withT
  rcases ixF_cases (eqT T.tag) TT 0 with ⟨h, hA⟩ | ⟨j, U, h1, h2, h3, h4⟩
  · right
    rw [if_neg (by rw [h]; omega)]
    by_cases h0 : 0 ≤ ixF (gtT T.tag) 0 TT
    · rw [if_pos h0]
      exact ⟨_, _, (List.take_append_drop _ TT).symm, rfl, hA⟩
    · rw [if_neg h0]
      exact ⟨TT, [], by simp, rfl, hA⟩
  · left
    have hl : j < TT.length := by
      rcases Nat.lt_or_ge j TT.length with h | h
      · exact h
      · rw [List.getElem?_eq_none h] at h2; cases h2
    have e : TT[j] = U := by rw [List.getElem?_eq_getElem hl] at h2; exact Option.some.inj h2
    rw [if_pos (by rw [h1]; omega), h1, Nat.zero_add, Int.toNat_natCast]
    refine ⟨TT.take j, U, TT.drop (j + 1), ?_, ?_, h3, h4⟩
    · rw [← e, ← List.drop_eq_getElem_cons hl, List.take_append_drop]
    · exact List.set_eq_take_append_cons_drop.trans (by rw [if_pos hl])
theorem eqT_trans {s : ByteArray} {T U : Tb} (h : eqT T.tag U = true) : eqT s U = eqT s T := by
  unfold eqT at h ⊢
  rw [beq_iff_eq] at h
  rw [h]
theorem eqT_of {s : ByteArray} {T V : Tb} (h : eqT s T = true) : eqT s V = eqT T.tag V := by
  unfold eqT at h ⊢
  rw [beq_iff_eq] at h
  rw [h]
theorem isGen_eq {T U : Tb} (h : eqT T.tag U = true) : isGen U = isGen T := by
  unfold isGen
  rw [eqT_trans h, eqT_trans h, eqT_trans h]
theorem has_with (TT : List Tb) (T : Tb) (s : ByteArray) : has9 (withT TT T) s = (has9 TT s || eqT s T) := by
  unfold has9
  rcases with_split TT T with ⟨a, U, b, e, e2, h, _⟩ | ⟨a, b, e, e2, h⟩
  · rw [e2, e, List.any_append, List.any_append, List.any_cons, List.any_cons, eqT_trans h]
    cases a.any (eqT s) <;> cases eqT s T <;> simp
  · rw [e2, e, List.any_append, List.any_append, List.any_cons]
    cases a.any (eqT s) <;> cases eqT s T <;> simp
theorem dat_with_eq (TT : List Tb) {T : Tb} {s : ByteArray} (hs : eqT s T = true) : dat9 (withT TT T) s = T.data := by
  have key : ∀ (a b : List Tb), (∀ V, V ∈ a → eqT T.tag V = false) → ((a ++ T :: b).find? (eqT s)) = some T := fun a b ha => by
    rw [List.find?_append, List.find?_eq_none.2 (fun V hV => by rw [eqT_of hs, ha V hV]; simp), List.find?_cons_of_pos hs]; rfl
  unfold dat9
  rcases with_split TT T with ⟨a, U, b, e, e2, h, ha⟩ | ⟨a, b, e, e2, h⟩
  · rw [e2, key a b ha]; rfl
  · rw [e2, key a b (fun V hV => h V (by rw [e]; exact List.mem_append_left _ hV))]; rfl
theorem dat_with_ne (TT : List Tb) {T : Tb} {s : ByteArray} (hs : eqT s T = false) : dat9 (withT TT T) s = dat9 TT s := by
  unfold dat9
  rcases with_split TT T with ⟨a, U, b, e, e2, h, ha⟩ | ⟨a, b, e, e2, h⟩
  · rw [e2, e, List.find?_append, List.find?_append, List.find?_cons_of_neg (by rw [hs]; simp), List.find?_cons_of_neg (by rw [eqT_trans h, hs]; simp)]
  · rw [e2, e, List.find?_append, List.find?_append, List.find?_cons_of_neg (by rw [hs]; simp)]
theorem filter_with (TT : List Tb) {T : Tb} (hT : isGen T = true) : (withT TT T).filter (fun T => !isGen T) = TT.filter (fun T => !isGen T) := by
  rcases with_split TT T with ⟨a, U, b, e, e2, h, _⟩ | ⟨a, b, e, e2, h⟩
  · rw [e2, e, List.filter_append, List.filter_append, List.filter_cons_of_neg (by rw [hT]; simp), List.filter_cons_of_neg (by rw [isGen_eq h, hT]; simp)]
  · rw [e2, e, List.filter_append, List.filter_append, List.filter_cons_of_neg (by rw [hT]; simp)]
theorem has_blank (TT : List Tb) (s : ByteArray) : has9 (TT.map blankT) s = has9 TT s := by unfold has9; rw [List.any_map]; rfl
theorem find_blank (TT : List Tb) (s : ByteArray) : (TT.map blankT).find? (eqT s) = (TT.find? (eqT s)).map blankT := by rw [List.find?_map]; rfl
theorem filter_blank (TT : List Tb) : (TT.map blankT).filter (fun T => !isGen T) = (TT.filter (fun T => !isGen T)).map blankT := by rw [List.filter_map]; rfl
theorem dat_blank (TT : List Tb) {s : ByteArray} (hs : (s.toList == [104, 101, 97, 100]) = false) : dat9 (TT.map blankT) s = dat9 TT s := by
  unfold dat9
  rw [find_blank]
  cases h : TT.find? (eqT s) with
  | none => rfl
  | some T =>
    have := List.find?_some h
    unfold eqT at this
    rw [beq_iff_eq] at this
    show blank4 T = T.data
    unfold blank4 adjT
    rw [this, hs, Bool.false_and, if_neg (by simp)]
theorem blank_fn (T : Tb) {j : Nat} (hj : j < 8 ∨ 12 ≤ j) : fnL (blank4 T) j = fnL T.data j := by
  unfold blank4
  split
  · rename_i h
    have hl : 12 ≤ T.data.length := by
      unfold adjT at h
      rw [Bool.and_eq_true] at h
      simpa using h.2
    unfold fnL
    rw [List.getD_eq_getElem?_getD, List.getD_eq_getElem?_getD]
    congr 1
    rcases hj with hj | hj
    · rw [List.getElem?_append_left (by rw [List.length_take]; omega), List.getElem?_take_of_lt hj]
    · rw [List.getElem?_append_right (by rw [List.length_take]; omega), List.length_take, List.getElem?_append_right (by simp; omega), List.getElem?_drop]
      congr 1
      simp only [List.length_cons, List.length_nil]
      omega
  · rfl
theorem dat_head (TT : List Tb) : (dat9 (TT.map blankT) tgHead).length = (dat9 TT tgHead).length ∧ ∀ j, (j < 8 ∨ 12 ≤ j) → fnL (dat9 (TT.map blankT) tgHead) j = fnL (dat9 TT tgHead) j := by
  unfold dat9
  rw [find_blank]
  cases h : TT.find? (eqT tgHead) with
  | none => exact ⟨rfl, fun _ _ => rfl⟩
  | some T => exact ⟨blank4_len T, fun j hj => blank_fn T hj⟩
theorem numAt_same {f g : Nat → Int} {p : Nat} : ∀ {k : Nat}, (∀ j, p ≤ j → j < p + k → f j = g j) → numAt f p k = numAt g p k
  | 0, _ => rfl
  | k + 1, h => by
    unfold numAt
    rw [numAt_same (fun j h1 h2 => h j h1 (by omega)), h (p + k) (by omega) (by omega)]
theorem hd_same {f g : Nat → Int} {n : Nat} (h : ∀ j, 12 ≤ j → f j = g j) : hdE f n = hdE g n ∧ hd9 f n = hd9 g n := by
  have k : ∀ p m, 12 ≤ p → numAt f p m = numAt g p m := fun p m hp => numAt_same fun j h1 _ => h j (by omega)
  have e : hdE f n = hdE g n := by unfold hdE; rw [k 12 4 (by omega), k 18 2 (by omega), k 50 2 (by omega)]
  refine ⟨e, ?_⟩
  unfold hd9 hdM hdS hdLg
  rw [e, k 18 2 (by omega), k 36 2 (by omega), k 38 2 (by omega), k 40 2 (by omega), k 42 2 (by omega), k 50 2 (by omega)]
theorem fld_same {A B : List Tb} (h1 : has9 A tgHead = has9 B tgHead) (h2 : has9 A tgMaxp = has9 B tgMaxp) (h3 : has9 A tgHhea = has9 B tgHhea) (hl : (dat9 A tgHead).length = (dat9 B tgHead).length) (hf : ∀ j, 12 ≤ j → fnL (dat9 A tgHead) j = fnL (dat9 B tgHead) j) (hm : dat9 A tgMaxp = dat9 B tgMaxp) (hc : dat9 A tgHhea = dat9 B tgHhea) : fldE A = fldE B ∧ fldH A = fldH B ∧ fldM A = fldM B ∧ fldC A = fldC B := by
  obtain ⟨e1, e2⟩ := hd_same (n := (dat9 A tgHead).length) hf
  replace e1 : ofL hdE (dat9 A tgHead) = ofL hdE (dat9 B tgHead) := e1.trans (by rw [hl])
  replace e2 : ofL hd9 (dat9 A tgHead) = ofL hd9 (dat9 B tgHead) := e2.trans (by rw [hl])
  have e : fldE A = fldE B := by
    unfold fldE three9
    rw [h1, h2, h3, hm, hc, e1]
  refine ⟨e, ?_, ?_, ?_⟩
  · unfold fldH; rw [e, e2]
  · unfold fldM; rw [e, hm]
  · unfold fldC; rw [e, hc]
theorem fnL_tab (N : Nat) (f : Nat → Int) : fnL ((List.range N).map f) = catB N f (fun _ => 0) := by
  funext j
  unfold fnL catB
  rw [List.getD_eq_getElem?_getD, List.getElem?_map]
  by_cases h : j < N
  · rw [List.getElem?_range h, if_pos h]; rfl
  · rw [List.getElem?_eq_none (by simpa using h), if_neg h]; rfl
theorem cut_flat : ∀ (GG : List (List Int)) (i : Nat) (L : List Int), GG[i]? = some L → cutL GG.flatten (sumB (GG.take i)) L.length = L
  | [], i, L, h => by cases i <;> cases h
  | G :: GG, 0, L, h => by
    injection h with h
    subst h
    unfold cutL sumB
    simp
  | G :: GG, i + 1, L, h => by
    have := cut_flat GG i L h
    unfold cutL at this ⊢
    rw [List.take_succ_cons, List.flatten_cons]
    have e : sumB (G :: GG.take i) = G.length + sumB (GG.take i) := by unfold sumB; simp
    rw [e, List.drop_append]
    simpa [Nat.add_sub_cancel_left, List.drop_eq_nil_of_le] using this
/-- Tags. -/
theorem tg_facts : (tgLoca.toList == [104, 101, 97, 100]) = false ∧ (tgGlyf.toList == [104, 101, 97, 100]) = false ∧ (tgHmtx.toList == [104, 101, 97, 100]) = false ∧ (tgMaxp.toList == [104, 101, 97, 100]) = false ∧ (tgHhea.toList == [104, 101, 97, 100]) = false := ⟨by kernel_rfl, by kernel_rfl, by kernel_rfl, by kernel_rfl, by kernel_rfl⟩
def eqS (s t : ByteArray) : Bool := t.toList == s.toList
theorem ne_HeadLoca : eqS tgHead tgLoca = false := by kernel_rfl

theorem ne_HeadGlyf : eqS tgHead tgGlyf = false := by kernel_rfl

theorem ne_HeadHmtx : eqS tgHead tgHmtx = false := by kernel_rfl

theorem ne_MaxpLoca : eqS tgMaxp tgLoca = false := by kernel_rfl

theorem ne_MaxpGlyf : eqS tgMaxp tgGlyf = false := by kernel_rfl

theorem ne_MaxpHmtx : eqS tgMaxp tgHmtx = false := by kernel_rfl

theorem ne_HheaLoca : eqS tgHhea tgLoca = false := by kernel_rfl

theorem ne_HheaGlyf : eqS tgHhea tgGlyf = false := by kernel_rfl

theorem ne_HheaHmtx : eqS tgHhea tgHmtx = false := by kernel_rfl

theorem ne_GvarLoca : eqS tgGvar tgLoca = false := by kernel_rfl

theorem ne_GvarGlyf : eqS tgGvar tgGlyf = false := by kernel_rfl

theorem ne_GvarHmtx : eqS tgGvar tgHmtx = false := by kernel_rfl

theorem ne_LocaGlyf : eqS tgLoca tgGlyf = false := by kernel_rfl

theorem ne_LocaHmtx : eqS tgLoca tgHmtx = false := by kernel_rfl

theorem ne_GlyfHmtx : eqS tgGlyf tgHmtx = false := by kernel_rfl

theorem eq_Loca : eqS tgLoca tgLoca = true := by kernel_rfl

theorem eq_Glyf : eqS tgGlyf tgGlyf = true := by kernel_rfl

theorem eq_Hmtx : eqS tgHmtx tgHmtx = true := by kernel_rfl

theorem has9_all (F : Fn9) (s : ByteArray) : has9 (all9 F) s = (((has9 F.TT s || eqS s tgLoca) || eqS s tgGlyf) || eqS s tgHmtx) := by
  unfold all9
  rw [has_with, has_with, has_with]; rfl
theorem dat9_loca (F : Fn9) : dat9 (all9 F) tgLoca = locB F := by
  unfold all9
  rw [dat_with_ne _ (show eqT tgLoca ⟨tgHmtx, hmtB F⟩ = false from ne_LocaHmtx), dat_with_ne _ (show eqT tgLoca ⟨tgGlyf, F.GG.flatten⟩ = false from ne_LocaGlyf), dat_with_eq _ (show eqT tgLoca ⟨tgLoca, locB F⟩ = true from eq_Loca)]
theorem dat9_glyf (F : Fn9) : dat9 (all9 F) tgGlyf = F.GG.flatten := by
  unfold all9
  rw [dat_with_ne _ (show eqT tgGlyf ⟨tgHmtx, hmtB F⟩ = false from ne_GlyfHmtx), dat_with_eq _ (show eqT tgGlyf ⟨tgGlyf, F.GG.flatten⟩ = true from eq_Glyf)]
theorem dat9_hmtx (F : Fn9) : dat9 (all9 F) tgHmtx = hmtB F := by
  unfold all9
  rw [dat_with_eq _ (show eqT tgHmtx ⟨tgHmtx, hmtB F⟩ = true from eq_Hmtx)]

theorem dat9_Head (F : Fn9) : dat9 (all9 F) tgHead = dat9 F.TT tgHead := by
  unfold all9
  rw [dat_with_ne _ (show eqT tgHead ⟨tgHmtx, hmtB F⟩ = false from ne_HeadHmtx), dat_with_ne _ (show eqT tgHead ⟨tgGlyf, F.GG.flatten⟩ = false from ne_HeadGlyf), dat_with_ne _ (show eqT tgHead ⟨tgLoca, locB F⟩ = false from ne_HeadLoca)]
theorem has9_Head (F : Fn9) : has9 (all9 F) tgHead = has9 F.TT tgHead := by
  rw [has9_all, ne_HeadLoca, ne_HeadGlyf, ne_HeadHmtx]; simp

theorem dat9_Maxp (F : Fn9) : dat9 (all9 F) tgMaxp = dat9 F.TT tgMaxp := by
  unfold all9
  rw [dat_with_ne _ (show eqT tgMaxp ⟨tgHmtx, hmtB F⟩ = false from ne_MaxpHmtx), dat_with_ne _ (show eqT tgMaxp ⟨tgGlyf, F.GG.flatten⟩ = false from ne_MaxpGlyf), dat_with_ne _ (show eqT tgMaxp ⟨tgLoca, locB F⟩ = false from ne_MaxpLoca)]
theorem has9_Maxp (F : Fn9) : has9 (all9 F) tgMaxp = has9 F.TT tgMaxp := by
  rw [has9_all, ne_MaxpLoca, ne_MaxpGlyf, ne_MaxpHmtx]; simp

theorem dat9_Hhea (F : Fn9) : dat9 (all9 F) tgHhea = dat9 F.TT tgHhea := by
  unfold all9
  rw [dat_with_ne _ (show eqT tgHhea ⟨tgHmtx, hmtB F⟩ = false from ne_HheaHmtx), dat_with_ne _ (show eqT tgHhea ⟨tgGlyf, F.GG.flatten⟩ = false from ne_HheaGlyf), dat_with_ne _ (show eqT tgHhea ⟨tgLoca, locB F⟩ = false from ne_HheaLoca)]
theorem has9_Hhea (F : Fn9) : has9 (all9 F) tgHhea = has9 F.TT tgHhea := by
  rw [has9_all, ne_HheaLoca, ne_HheaGlyf, ne_HheaHmtx]; simp

theorem filter_all (F : Fn9) (h : made9 F.TT = false) : (all9 F).filter (fun T => !isGen T) = F.TT := by
  unfold all9
  rw [filter_with _ (show isGen ⟨tgHmtx, hmtB F⟩ = true by show (eqS tgLoca tgHmtx || eqS tgGlyf tgHmtx || eqS tgHmtx tgHmtx) = true; rw [eq_Hmtx]; simp),
    filter_with _ (show isGen ⟨tgGlyf, F.GG.flatten⟩ = true by show (eqS tgLoca tgGlyf || eqS tgGlyf tgGlyf || eqS tgHmtx tgGlyf) = true; rw [eq_Glyf]; simp),
    filter_with _ (show isGen ⟨tgLoca, locB F⟩ = true by show (eqS tgLoca tgLoca || eqS tgGlyf tgLoca || eqS tgHmtx tgLoca) = true; rw [eq_Loca]; simp)]
  rw [List.filter_eq_self]
  intro T hT
  have := List.any_eq_false.1 h T hT
  unfold isGen
  simpa using this
theorem fld_all (F : Fn9) : fldE ((all9 F).map blankT) = fldE F.TT ∧ fldH ((all9 F).map blankT) = fldH F.TT ∧ fldM ((all9 F).map blankT) = fldM F.TT ∧ fldC ((all9 F).map blankT) = fldC F.TT := by
  refine fld_same ?_ ?_ ?_ ?_ ?_ ?_ ?_
  · rw [has_blank, has9_Head]
  · rw [has_blank, has9_Maxp]
  · rw [has_blank, has9_Hhea]
  · rw [(dat_head _).1, dat9_Head]
  · intro j hj; rw [(dat_head _).2 j (.inr hj), dat9_Head]
  · rw [dat_blank _ tg_facts.2.2.2.1, dat9_Maxp]
  · rw [dat_blank _ tg_facts.2.2.2.2, dat9_Hhea]
/-- The places and glyphs back. -/
theorem gly_back (F : Fn9) (hn : 1 ≤ F.GG.length ∧ F.GG.length ≤ 1024) (h : locE F = 0) : glyE (locB F) F.GG.flatten F.h.l (F.GG.length : Int) = 0 ∧ glyG (locB F) F.GG.flatten F.h.l F.GG.length = F.GG := by
  have hN : wrN F.h.l (pl9 F.GG) (F.GG.length + 1) = wide4 F.h.l * (F.GG.length + 1) := by
    unfold wrN
    rw [if_pos (show wrE F.h.l (pl9 F.GG) (F.GG.length + 1) = 0 from h)]
  have hf : fnL (locB F) = catB (wide4 F.h.l * (F.GG.length + 1)) (wrF F.h.l (pl9 F.GG)) (fun _ => 0) := by
    unfold locB
    rw [hN, fnL_tab]
  have hl : (locB F).length = wide4 F.h.l * (F.GG.length + 1) + 0 := by unfold locB; rw [hN]; simp
  have hE : rdE (fnL (locB F)) (locB F).length F.h.l (F.GG.length : Int) = 0 := by
    have := (back_rd (o := fun _ => 0) (m := 0) h (by omega)).1
    rw [hf, hl]
    rw [show ((F.GG.length + 1 : Nat) : Int) - 1 = (F.GG.length : Int) by omega] at this
    exact this
  have hv : ∀ i, i < F.GG.length + 1 → lcV (fnL (locB F)) F.h.l i = pl9 F.GG i := fun i hi => by rw [hf]; exact wr_value h hi
  constructor
  · unfold glyE
    rw [if_neg (by rw [hE]; simp), Int.toNat_natCast, hv _ (by omega), if_neg]
    unfold pl9
    rw [List.take_length, flat_len]
    omega
  · unfold glyG
    refine List.ext_getElem? fun i => ?_
    rw [List.getElem?_map]
    by_cases hi : i < F.GG.length
    · rw [List.getElem?_range hi, Option.map_some, hv i (by omega), hv (i + 1) (by omega)]
      have hL : F.GG[i]? = some F.GG[i] := List.getElem?_eq_getElem hi
      rw [pl9_next hL, hL]
      have h0 := (pl9_le F.GG i).1
      congr 1
      rw [show (pl9 F.GG i + (F.GG[i].length : Int)).toNat - (pl9 F.GG i).toNat = F.GG[i].length by omega]
      exact cut_flat F.GG i _ hL
    · rw [List.getElem?_eq_none (by simpa using hi), List.getElem?_eq_none (by omega)]; rfl
/-- The metrics back. -/
theorem met_back (F : Fn9) (h : hmtE F = 0) : mtE (hmtB F).length F.ct (F.MM.length : Int) = 0 ∧ (List.range F.MM.length).map (fun i => (mtA (fnL (hmtB F)) F.ct.toNat i, mtB (fnL (hmtB F)) F.ct.toNat i)) = F.MM := by
  have hE := h
  unfold hmtE at h
  unfold pmE at h
  by_cases h1 : F.MM.length < 1 ∨ 1024 < F.MM.length ∨ F.ct < 1 ∨ (F.MM.length : Int) < F.ct
  · rw [if_pos h1] at h; cases h
  · rw [if_neg h1] at h
    by_cases h2 : allB (fitM (mtX F.MM) (mtY F.MM)) F.MM.length = true
    · rw [if_pos h2] at h
      by_cases h3 : allB (samA (mtX F.MM) F.ct.toNat) F.MM.length = true
      · have hC : 1 ≤ F.ct.toNat ∧ F.ct.toNat ≤ F.MM.length := by omega
        have hN : pmN (mtX F.MM) (mtY F.MM) F.MM.length F.ct = 4 * F.ct.toNat + 2 * (F.MM.length - F.ct.toNat) := by
          unfold pmN
          rw [if_pos (show pmE (mtX F.MM) (mtY F.MM) F.MM.length F.ct = 0 from hE)]
          unfold pmP
          split <;> omega
        have hf : fnL (hmtB F) = catB (4 * F.ct.toNat + 2 * (F.MM.length - F.ct.toNat)) (pmF (mtX F.MM) (mtY F.MM) F.ct.toNat) (fun _ => 0) := by
          unfold hmtB
          rw [hN, fnL_tab]
        have hl : (hmtB F).length = 4 * F.ct.toNat + 2 * (F.MM.length - F.ct.toNat) := by unfold hmtB; rw [hN]; simp
        have hs : ∀ p m, p + m ≤ 4 * F.ct.toNat + 2 * (F.MM.length - F.ct.toNat) → numAt (fnL (hmtB F)) p m = numAt (pmF (mtX F.MM) (mtY F.MM) F.ct.toNat) p m := fun p m hp => numAt_same fun j _ hj => by rw [hf]; unfold catB; rw [if_pos (by omega)]
        constructor
        · unfold mtE
          rw [if_neg (by omega), if_neg (by rw [hl]; omega)]
        · refine List.ext_getElem? fun i => ?_
          rw [List.getElem?_map]
          by_cases hi : i < F.MM.length
          · rw [List.getElem?_range hi, Option.map_some]
            obtain ⟨b1, b2⟩ := pm_back hC h2 h3 hi
            have e1 : mtA (fnL (hmtB F)) F.ct.toNat i = mtX F.MM i := by
              rw [← b1]; unfold mtA
              split
              · exact hs _ _ (by omega)
              · exact hs _ _ (by omega)
            have e2 : mtB (fnL (hmtB F)) F.ct.toNat i = mtY F.MM i := by
              rw [← b2]; unfold mtB
              split
              · rw [hs _ _ (by omega)]
              · rw [hs _ _ (by omega)]
            rw [e1, e2, List.getElem?_eq_getElem hi]
            unfold mtX mtY
            rw [List.getD_eq_getElem?_getD, List.getElem?_eq_getElem hi]
            rfl
          · rw [List.getElem?_eq_none (by simpa using hi), List.getElem?_eq_none (by omega)]; rfl
      · rw [if_neg h3] at h; cases h
    · rw [if_neg h2] at h; cases h
/-- What a right font's bytes are read as. -/
def blank9 (F : Fn9) : Fn9 := ⟨F.TT.map blankT, F.h, F.m, F.MM, F.ct, F.GG⟩
theorem rd9_file {F : Fn9} (h : right9 F) : rd9 (file4 (all9 F)) = (0, blank9 F) := by
  obtain ⟨⟨hn, hmd, hgv, ⟨a1, a2, a3, a4⟩, hg, hmm⟩, hE, hr⟩ := h
  obtain ⟨f1, f2, f3, f4⟩ := fld_all F
  have hlE : locE F = 0 := by
    unfold allE at hE
    by_cases h0 : locE F = 0
    · exact h0
    · rw [if_pos h0] at hE; exact hE
  have hhE : hmtE F = 0 := by
    unfold allE at hE
    rw [if_neg (by omega)] at hE
    exact hE
  obtain ⟨g1, g2⟩ := gly_back F hn hlE
  obtain ⟨m1, m2⟩ := met_back F hhE
  have d0 : dat9 ((all9 F).map blankT) tgLoca = locB F := by rw [dat_blank _ tg_facts.1, dat9_loca]
  have d1 : dat9 ((all9 F).map blankT) tgGlyf = F.GG.flatten := by rw [dat_blank _ tg_facts.2.1, dat9_glyf]
  have d2 : dat9 ((all9 F).map blankT) tgHmtx = hmtB F := by rw [dat_blank _ tg_facts.2.2.1, dat9_hmtx]
  rw [a1] at f1
  rw [a2] at f2
  rw [a3] at f3
  rw [a4] at f4
  unfold rd9
  rw [rd4_file hr]
  rw [if_neg (by simp)]
  unfold rdT9
  rw [if_neg (by rw [has_blank, has9_all, hgv, ne_GvarLoca, ne_GvarGlyf, ne_GvarHmtx]; simp),
    if_neg (by rw [has_blank, has_blank, has_blank, has9_all, has9_all, has9_all, eq_Loca, eq_Glyf, eq_Hmtx]; simp),
    if_neg (by rw [f1]; simp), if_neg (by rw [f3, hg]; omega),
    if_neg (by rw [d0, d1, f2, f3, hg, g1]; simp), if_neg (by rw [d2, f4, f3, hg, ← hmm, m1]; simp)]
  rw [d0, d1, d2, f2, f3, f4, hg, Int.toNat_natCast, g2]
  rw [hmm] at m2
  rw [m2]
  show (0, (⟨((all9 F).map blankT).filter (fun T => !isGen T), F.h, F.m, F.MM, F.ct, F.GG⟩ : Fn9)) = (0, blank9 F)
  rw [filter_blank, filter_all F hmd]
  rfl
end Go.Proofs.YteckkcpnfeoehaaGreatDoor

/-
  Layer 9: a glyph's kind; 'Same' of the document's fonts.
-/
namespace Go.Proofs.YteckkcpnfeoehaaGreatDoor
set_option maxRecDepth 100000
open Go.RowKit Go.ChangeShapes Go.WideShapes Go.Deep
set_option linter.unusedVariables false
set_option linter.unusedSimpArgs false

/-- What a glyph's bytes are. -/
def kd12 (L : List Int) : Int := if L.length < 2 then 0 else if 128 ≤ fnL L 0 then 2 else 1
set_option maxHeartbeats 4000000 in

theorem ft_kind (A : Option Addr) (n c : Nat) (L : List Int) (w : World) (h : RdB w w.heap.size A L) (hn : n = L.length) (hx : n ≤ 140737488355328) :
    Calls Tryz.prog 21 #[.slice A n c] w fun e w' => e = .returned (.int .i64 (kd12 L)) ∧ Since w w' := by
  have hnI : (n : Int) ≤ 140737488355328 := by omega
  obtain ⟨R, hR⟩ : ∃ R, R = kd12 L := ⟨_, rfl⟩
  rw [← hR]
  unfold kd12 at hR
  rw [← hn] at hR
  by_cases h2 : n < 2
  · rw [if_pos h2] at hR
    subst hR
    have d2 : (n : Int) < 2 := by omega
    clear h
    go_enter Tryz.func21, Tryz.ntmps21
    go_wp2_with fail
    go_ret
    exact ⟨by first | rfl | simp, by (repeat (first | with_reducible (exact Since.refl _) | with_reducible assumption | with_reducible (refine Since.drew ?_) | with_reducible (refine Since.drewN ?_ _) | with_reducible (refine Since.alloc ?_ _) | (with_reducible (refine Since.setCell ?_ ?_ _); rotate_left; focus (first | (simp; done) | (simp; omega) | omega)) | (with_reducible (refine Since.trans ?_ (by with_reducible assumption)))))⟩
  · rw [if_neg h2] at hR
    have d2 : ¬ (n : Int) < 2 := by omega
    have d3 : (0 : Int) < (n : Int) := by omega
    obtain ⟨b, o, rfl, hb, hc⟩ := rdb_rd h (by omega)
    have c0 := hc 0 (by omega)
    rw [Nat.add_zero] at c0
    have c1 : w.cell? ⟨b, o, none⟩ = some (.int .u8 (fnL L 0)) := c0
    clear h hc c0 hn
    generalize fnL L 0 = x at *
    by_cases hx : 128 ≤ x
    · rw [if_pos hx] at hR
      subst hR
      go_enter Tryz.func21, Tryz.ntmps21
      go_wp2_with fail
      go_ret
      exact ⟨by first | rfl | simp, by (repeat (first | with_reducible (exact Since.refl _) | with_reducible assumption | with_reducible (refine Since.drew ?_) | with_reducible (refine Since.drewN ?_ _) | with_reducible (refine Since.alloc ?_ _) | (with_reducible (refine Since.setCell ?_ ?_ _); rotate_left; focus (first | (simp; done) | (simp; omega) | omega)) | (with_reducible (refine Since.trans ?_ (by with_reducible assumption)))))⟩
    · rw [if_neg hx] at hR
      subst hR
      go_enter Tryz.func21, Tryz.ntmps21
      go_wp2_with fail
      go_ret
      exact ⟨by first | rfl | simp, by (repeat (first | with_reducible (exact Since.refl _) | with_reducible assumption | with_reducible (refine Since.drew ?_) | with_reducible (refine Since.drewN ?_ _) | with_reducible (refine Since.alloc ?_ _) | (with_reducible (refine Since.setCell ?_ ?_ _); rotate_left; focus (first | (simp; done) | (simp; omega) | omega)) | (with_reducible (refine Since.trans ?_ (by with_reducible assumption)))))⟩

theorem alloc_size9 (w : World) (o : Obj) : w.heap.size + 1 = (w.alloc o).heap.size := by simp
set_option maxRecDepth 1000000 in
set_option maxHeartbeats 64000000 in
theorem rf_same9 (x y : Fh) (F : Fn9) (C D : Array Value) (hC : C = fnV x F) (hD : D = fnV y F) (w : World) (hR : FnR w w.heap.size x F) (hQ : FnR w w.heap.size y F) (ht : F.TT.length ≤ maxLen) (hm : F.MM.length ≤ maxLen) (hg : F.GG.length ≤ maxLen) :
    Calls Tryz.prog 14 #[.agg C, .agg D] w fun e w' => e = .returned (.bool true) ∧ Since w w' := by
  obtain ⟨xAt, xct, xAm, xcm, xAg, xcg⟩ := x
  obtain ⟨yAt, yct, yAm, ycm, yAg, ycg⟩ := y
  obtain ⟨hT1, hM1, hG1⟩ := hR
  obtain ⟨hT2, hM2, hG2⟩ := hQ
  have hT1 : RdTL w w.heap.size xAt F.TT := hT1
  have hT2 : RdTL w w.heap.size yAt F.TT := hT2
  have hM1 : Rd w w.heap.size xAm (F.MM.length * 2) (MtV (mtX F.MM) (mtY F.MM)) := hM1
  have hM2 : Rd w w.heap.size yAm (F.MM.length * 2) (MtV (mtX F.MM) (mtY F.MM)) := hM2
  have hG1 : RdBL w w.heap.size xAg F.GG := hG1
  have hG2 : RdBL w w.heap.size yAg F.GG := hG2
  have HBX := Lib.hid (fun (w2 : World) (t : TypeId) => (fn_box (x := ⟨xAt, xct, xAm, xcm, xAg, xcg⟩) (nt := F.TT.length) (h := F.h) (m := F.m) (nm := F.MM.length) (ct := F.ct) (ng := F.GG.length) w2 w2.heap.size rfl t))
  have HBY := Lib.hid (fun (w2 : World) (b : Nat) (hb : b = w2.heap.size) (t : TypeId) => (fn_box (x := ⟨yAt, yct, yAm, ycm, yAg, ycg⟩) (nt := F.TT.length) (h := F.h) (m := F.m) (nm := F.MM.length) (ct := F.ct) (ng := F.GG.length) w2 b hb t))
  have HC := Lib.hid (show C = (fnC ⟨xAt, xct, xAm, xcm, xAg, xcg⟩ F.TT.length F.h F.m F.MM.length F.ct F.GG.length).toArray from hC)
  have HD := Lib.hid (show D = (fnC ⟨yAt, yct, yAm, ycm, yAg, ycg⟩ F.TT.length F.h F.m F.MM.length F.ct F.GG.length).toArray from hD)
  have HMS := Lib.hid (fun (w2 : World) (h2 : Since w w2) => ref_msame xAm yAm F.MM.length xcm ycm _ _ w2 (hM1.on h2) (hM2.on h2) hm)
  have HTS := Lib.hid (fun (w2 : World) (h2 : Since w w2) => rf_sameT xAt yAt xct yct F.TT.length F.TT.length F.TT w2 (hT1.on h2) (hT2.on h2) rfl rfl ht)
  have eH : ∀ w, (Op.equalIn 10000 24 (.agg (hdA F.h)) (.agg (hdA F.h))).run Tryz.prog w = .ok true w := fun w => (eq_hd9 w F.h F.h).trans (by simp)
  have eM : ∀ w, (Op.equalIn 10000 26 (.agg (mxA F.m)) (.agg (mxA F.m))).run Tryz.prog w = .ok true w := fun w => (eq_mx9 w F.m F.m).trans (by simp)
  unfold hdA at eH
  unfold mxA at eM
  obtain ⟨GG, hGG⟩ : ∃ GG, GG = F.GG := ⟨_, rfl⟩
  rw [← hGG] at hG1 hG2 hg HBX HBY HC HD
  have hn : (GG.length : Int) ≤ 9223372036854775807 := by simp only [maxLen] at hg; omega
  obtain ⟨ng, hng⟩ : ∃ n, n = GG.length := ⟨_, rfl⟩
  rw [← hng] at HBX HBY HC HD hn
  have HG1 := Lib.hid hG1
  have HG2 := Lib.hid hG2
  have HNG := Lib.hid hng
  generalize F.MM.length = nm at *
  generalize F.TT.length = nt at *
  generalize F.h = H at *
  generalize F.m = M at *
  generalize F.ct = K at *
  clear hC hD hT1 hT2 hM1 hM2 hG1 hG2 ht hm hg hGG hng
  go_enter Tryz.func14, Tryz.ntmps14
  go_upto_region 1 with fail
  refine wp_named fun w1 hw1 => ?_
  have hS1 : Since w w1 := by subst hw1; (repeat (first | with_reducible (exact Since.refl _) | with_reducible assumption | with_reducible (refine Since.drew ?_) | with_reducible (refine Since.drewN ?_ _) | with_reducible (refine Since.alloc ?_ _) | (with_reducible (refine Since.setCell ?_ ?_ _); rotate_left; focus (first | (simp; done) | (simp; omega) | omega)) | (with_reducible (refine Since.trans ?_ (by with_reducible assumption)))))
  have hB1 : BoxL w1 w.heap.size (fnC ⟨xAt, xct, xAm, xcm, xAg, xcg⟩ nt H M nm K ng) := by subst hw1; rw [HC.out]; exact (HBX.out _ _).alloc _
  have hB2 : BoxL w1 (w.heap.size + 1) (fnC ⟨yAt, yct, yAm, ycm, yAg, ycg⟩ nt H M nm K ng) := by subst hw1; rw [HD.out]; exact HBY.out _ _ (alloc_size9 _ _) _
  clear hw1 HBX HBY HC HD
  obtain ⟨f0, ⟨f1, f2, f3, f4, f5, f6⟩, ⟨f7, f8, f9, fa, fb, fc, fd⟩, fe, ff, fg⟩ := fn_cells hB1
  obtain ⟨g0, ⟨g1, g2, g3, g4, g5, g6⟩, ⟨g7, g8, g9, ga, gb, gc, gd⟩, ge, gf, gg⟩ := fn_cells hB2
  go_upto_region 3 with (first | (go_at_call 39; (with_reducible refine (HMS.out _ hS1).mono ?_); rintro e w2 ⟨rfl, hS2⟩; have hS12 := hS1.trans hS2; have hB3 := hB1.since hS2; have hB4 := hB2.since hS2; have k0 := hB3.cell 0 (v := .slice xAt nt xct) rfl; have k1 := hB4.cell 0 (v := .slice yAt nt yct) rfl) | (go_at_call 40; (with_reducible refine (HTS.out _ hS12).mono ?_); rintro e w3 ⟨rfl, hS3⟩; have hS13 := hS12.trans hS3; have hB5 := hB3.since hS3; have hB6 := hB4.since hS3; have k2 := hB5.cell 16 (v := .slice xAg ng xcg) rfl; have k3 := hB6.cell 16 (v := .slice yAg ng ycg) rfl))
  clear f0 f1 f2 f3 f4 f5 f6 f7 f8 f9 fa fb fc fd fe ff fg g0 g1 g2 g3 g4 g5 g6 g7 g8 g9 ga gb gc gd ge gf gg k0 k1 eH eM HMS HTS
  have HB5 := Lib.hid hB5
  have HB6 := Lib.hid hB6
  have HS13 := Lib.hid hS13
  clear hB1 hB2 hB3 hB4 hB5 hB6 hS1 hS12 hS13 hS2 hS3
  go_wp2_with fail
  go_loopw [53] (fun y wr => ∃ j : Nat, j ≤ ng ∧ y = .int .i64 (j : Int) ∧ Since w3 wr) (fun y _ => ng - (intOf y).toNat)
  case atStart => exact ⟨0, by omega, rfl, by (repeat (first | with_reducible (exact Since.refl _) | with_reducible assumption | with_reducible (refine Since.drew ?_) | with_reducible (refine Since.drewN ?_ _) | with_reducible (refine Since.alloc ?_ _) | (with_reducible (refine Since.setCell ?_ ?_ _); rotate_left; focus (first | (simp; done) | (simp; omega) | omega)) | (with_reducible (refine Since.trans ?_ (by with_reducible assumption)))))⟩
  case round =>
    obtain ⟨j, hj, rfl, hS⟩ := hrel
    clear k2 k3
    by_cases hjn : j < ng
    · have hjn' : (j : Int) < ng := by omega
      have hj0 : (0 : Int) ≤ (j : Int) := by omega
      have hL : GG[j]? = some (GG[j]'(by rw [← HNG.out]; exact hjn)) := List.getElem?_eq_getElem _
      have hSw := HS13.out.trans hS
      obtain ⟨b, o, A', c', e1, hb, h0, hc, hr⟩ := (HG1.out.on hSw).row hL
      obtain ⟨b2, o2, A2, c2, e2, hb2, h2, hc2, hr2⟩ := (HG2.out.on hSw).row hL
      subst e1 e2
      generalize GG[j]'(by rw [← HNG.out]; exact hjn) = L at *
      have k2 := (HB5.out.since hS).cell 16 (v := .slice (some ⟨b, o, none⟩) ng xcg) rfl
      have k3 := (HB6.out.since hS).cell 16 (v := .slice (some ⟨b2, o2, none⟩) ng ycg) rfl
      obtain ⟨n, hn0⟩ : ∃ n, n = L.length := ⟨_, rfl⟩
      rw [← hn0] at h0 h2
      have HS := Lib.hid (fun (k : Nat) => same_l A' A2 n n c' c2 L L (wr.drewN k) hn0 hn0 hr hr2 rfl)
      have HSR := Lib.hid hS
      clear hL hn0 hr hr2 hc hc2 hb hb2 hS hSw
      go_wp2_with fail
      go_quiet ((go_at_call 15; exact Calls.quiet_of_same (HS.out _)))
      go_wp2_with fail
      go_roundw
      case rel => first | exact ⟨j + 1, by omega, by first | rfl | go_num | simp, by first | exact HSR.out | exact HSR.out.drewN _⟩ | ((repeat apply Exists.intro); refine ⟨?_, rfl⟩; exact ⟨j + 1, by omega, by first | rfl | go_num | simp, by first | exact HSR.out | exact HSR.out.drewN _⟩)
      case measure => simp [intOf]; omega
    · obtain rfl : ng = j := by omega
      have hjn' : ¬ (ng : Int) < (ng : Int) := by omega
      go_wp2_with fail
      go_ret
      exact ⟨by first | rfl | simp, HS13.out.trans hS⟩
end Go.Proofs.YteckkcpnfeoehaaGreatDoor
