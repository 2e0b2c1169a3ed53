/-
  Layer 9: what is written is read (no walk).
-/
import Derived.Test.YteckkcpnfeoehaaDoorMpP
import Derived.Test.YteckkcpnfeoehaaDoorMpH
import Derived.Test.YteckkcpnfeoehaaDoorMpK
namespace Go.Proofs.YteckkcpnfeoehaaDoor
set_option maxRecDepth 100000
open Go.RowKit Go.ChangeShapes Go.WideShapes Go.Deep
set_option linter.unusedVariables false
set_option linter.unusedSimpArgs false

theorem with_split (TT : List Tb) (T : Tb) : (∃ a U b, TT = a ++ U :: b ∧ withT TT T = a ++ T :: b ∧ eqT T.tag U = true ∧ ∀ V, V ∈ a → eqT T.tag V = false) ∨ (∃ a b, TT = a ++ b ∧ withT TT T = a ++ T :: b ∧ ∀ V, V ∈ TT → eqT T.tag V = false) := by
  unfold withT
  rcases ixF_cases (eqT T.tag) TT 0 with ⟨h, hA⟩ | ⟨j, U, h1, h2, h3, h4⟩
  · right
    rw [if_neg (by rw [h]; omega)]
    by_cases h0 : 0 ≤ ixF (gtT T.tag) 0 TT
    · rw [if_pos h0]
      exact ⟨_, _, (List.take_append_drop _ TT).symm, rfl, hA⟩
    · rw [if_neg h0]
      exact ⟨TT, [], by simp, rfl, hA⟩
  · left
    have hl : j < TT.length := by
      rcases Nat.lt_or_ge j TT.length with h | h
      · exact h
      · rw [List.getElem?_eq_none h] at h2; cases h2
    have e : TT[j] = U := by rw [List.getElem?_eq_getElem hl] at h2; exact Option.some.inj h2
    rw [if_pos (by rw [h1]; omega), h1, Nat.zero_add, Int.toNat_natCast]
    refine ⟨TT.take j, U, TT.drop (j + 1), ?_, ?_, h3, h4⟩
    · rw [← e, ← List.drop_eq_getElem_cons hl, List.take_append_drop]
    · exact List.set_eq_take_append_cons_drop.trans (by rw [if_pos hl])
theorem eqT_trans {s : ByteArray} {T U : Tb} (h : eqT T.tag U = true) : eqT s U = eqT s T := by
  unfold eqT at h ⊢
  rw [beq_iff_eq] at h
  rw [h]
theorem eqT_of {s : ByteArray} {T V : Tb} (h : eqT s T = true) : eqT s V = eqT T.tag V := by
  unfold eqT at h ⊢
  rw [beq_iff_eq] at h
  rw [h]
theorem isGen_eq {T U : Tb} (h : eqT T.tag U = true) : isGen U = isGen T := by
  unfold isGen
  rw [eqT_trans h, eqT_trans h, eqT_trans h]
theorem has_with (TT : List Tb) (T : Tb) (s : ByteArray) : has9 (withT TT T) s = (has9 TT s || eqT s T) := by
  unfold has9
  rcases with_split TT T with ⟨a, U, b, e, e2, h, _⟩ | ⟨a, b, e, e2, h⟩
  · rw [e2, e, List.any_append, List.any_append, List.any_cons, List.any_cons, eqT_trans h]
    cases a.any (eqT s) <;> cases eqT s T <;> simp
  · rw [e2, e, List.any_append, List.any_append, List.any_cons]
    cases a.any (eqT s) <;> cases eqT s T <;> simp
theorem dat_with_eq (TT : List Tb) {T : Tb} {s : ByteArray} (hs : eqT s T = true) : dat9 (withT TT T) s = T.data := by
  have key : ∀ (a b : List Tb), (∀ V, V ∈ a → eqT T.tag V = false) → ((a ++ T :: b).find? (eqT s)) = some T := fun a b ha => by
    rw [List.find?_append, List.find?_eq_none.2 (fun V hV => by rw [eqT_of hs, ha V hV]; simp), List.find?_cons_of_pos hs]; rfl
  unfold dat9
  rcases with_split TT T with ⟨a, U, b, e, e2, h, ha⟩ | ⟨a, b, e, e2, h⟩
  · rw [e2, key a b ha]; rfl
  · rw [e2, key a b (fun V hV => h V (by rw [e]; exact List.mem_append_left _ hV))]; rfl
theorem dat_with_ne (TT : List Tb) {T : Tb} {s : ByteArray} (hs : eqT s T = false) : dat9 (withT TT T) s = dat9 TT s := by
  unfold dat9
  rcases with_split TT T with ⟨a, U, b, e, e2, h, ha⟩ | ⟨a, b, e, e2, h⟩
  · rw [e2, e, List.find?_append, List.find?_append, List.find?_cons_of_neg (by rw [hs]; simp), List.find?_cons_of_neg (by rw [eqT_trans h, hs]; simp)]
  · rw [e2, e, List.find?_append, List.find?_append, List.find?_cons_of_neg (by rw [hs]; simp)]
theorem filter_with (TT : List Tb) {T : Tb} (hT : isGen T = true) : (withT TT T).filter (fun T => !isGen T) = TT.filter (fun T => !isGen T) := by
  rcases with_split TT T with ⟨a, U, b, e, e2, h, _⟩ | ⟨a, b, e, e2, h⟩
  · rw [e2, e, List.filter_append, List.filter_append, List.filter_cons_of_neg (by rw [hT]; simp), List.filter_cons_of_neg (by rw [isGen_eq h, hT]; simp)]
  · rw [e2, e, List.filter_append, List.filter_append, List.filter_cons_of_neg (by rw [hT]; simp)]
/-- Blanked tables. -/
theorem blank_tag (T : Tb) (s : ByteArray) : eqT s (blankT T) = eqT s T := rfl
theorem blank_gen (T : Tb) : isGen (blankT T) = isGen T := rfl
theorem has_blank (TT : List Tb) (s : ByteArray) : has9 (TT.map blankT) s = has9 TT s := by unfold has9; rw [List.any_map]; rfl
theorem find_blank (TT : List Tb) (s : ByteArray) : (TT.map blankT).find? (eqT s) = (TT.find? (eqT s)).map blankT := by rw [List.find?_map]; rfl
theorem filter_blank (TT : List Tb) : (TT.map blankT).filter (fun T => !isGen T) = (TT.filter (fun T => !isGen T)).map blankT := by rw [List.filter_map]; rfl
theorem dat_blank (TT : List Tb) {s : ByteArray} (hs : (s.toList == [104, 101, 97, 100]) = false) : dat9 (TT.map blankT) s = dat9 TT s := by
  unfold dat9
  rw [find_blank]
  cases h : TT.find? (eqT s) with
  | none => rfl
  | some T =>
    have := List.find?_some h
    unfold eqT at this
    rw [beq_iff_eq] at this
    show blank4 T = T.data
    unfold blank4 adjT
    rw [this, hs, Bool.false_and, if_neg (by simp)]
theorem blank_fn (T : Tb) {j : Nat} (hj : j < 8 ∨ 12 ≤ j) : fnL (blank4 T) j = fnL T.data j := by
  unfold blank4
  split
  · rename_i h
    have hl : 12 ≤ T.data.length := by
      unfold adjT at h
      rw [Bool.and_eq_true] at h
      simpa using h.2
    unfold fnL
    rw [List.getD_eq_getElem?_getD, List.getD_eq_getElem?_getD]
    congr 1
    rcases hj with hj | hj
    · rw [List.getElem?_append_left (by rw [List.length_take]; omega), List.getElem?_take_of_lt hj]
    · rw [List.getElem?_append_right (by rw [List.length_take]; omega), List.length_take, List.getElem?_append_right (by simp; omega), List.getElem?_drop]
      congr 1
      simp only [List.length_cons, List.length_nil]
      omega
  · rfl
theorem dat_head (TT : List Tb) : (dat9 (TT.map blankT) tgHead).length = (dat9 TT tgHead).length ∧ ∀ j, (j < 8 ∨ 12 ≤ j) → fnL (dat9 (TT.map blankT) tgHead) j = fnL (dat9 TT tgHead) j := by
  unfold dat9
  rw [find_blank]
  cases h : TT.find? (eqT tgHead) with
  | none => exact ⟨rfl, fun _ _ => rfl⟩
  | some T => exact ⟨blank4_len T, fun j hj => blank_fn T hj⟩
theorem numAt_same {f g : Nat → Int} {p : Nat} : ∀ {k : Nat}, (∀ j, p ≤ j → j < p + k → f j = g j) → numAt f p k = numAt g p k
  | 0, _ => rfl
  | k + 1, h => by
    unfold numAt
    rw [numAt_same (fun j h1 h2 => h j h1 (by omega)), h (p + k) (by omega) (by omega)]
theorem hd_same {f g : Nat → Int} {n : Nat} (h : ∀ j, 12 ≤ j → f j = g j) : hdE f n = hdE g n ∧ hd9 f n = hd9 g n := by
  have k : ∀ p m, 12 ≤ p → numAt f p m = numAt g p m := fun p m hp => numAt_same fun j h1 _ => h j (by omega)
  have e : hdE f n = hdE g n := by unfold hdE; rw [k 12 4 (by omega), k 18 2 (by omega), k 50 2 (by omega)]
  refine ⟨e, ?_⟩
  unfold hd9 hdM hdS hdLg
  rw [e, k 18 2 (by omega), k 36 2 (by omega), k 38 2 (by omega), k 40 2 (by omega), k 42 2 (by omega), k 50 2 (by omega)]
theorem fld_same {A B : List Tb} (h1 : has9 A tgHead = has9 B tgHead) (h2 : has9 A tgMaxp = has9 B tgMaxp) (h3 : has9 A tgHhea = has9 B tgHhea) (hl : (dat9 A tgHead).length = (dat9 B tgHead).length) (hf : ∀ j, 12 ≤ j → fnL (dat9 A tgHead) j = fnL (dat9 B tgHead) j) (hm : dat9 A tgMaxp = dat9 B tgMaxp) (hc : dat9 A tgHhea = dat9 B tgHhea) : fldE A = fldE B ∧ fldH A = fldH B ∧ fldM A = fldM B ∧ fldC A = fldC B := by
  obtain ⟨e1, e2⟩ := hd_same (n := (dat9 A tgHead).length) hf
  replace e1 : ofL hdE (dat9 A tgHead) = ofL hdE (dat9 B tgHead) := e1.trans (by rw [hl])
  replace e2 : ofL hd9 (dat9 A tgHead) = ofL hd9 (dat9 B tgHead) := e2.trans (by rw [hl])
  have e : fldE A = fldE B := by
    unfold fldE three9
    rw [h1, h2, h3, hm, hc, e1]
  refine ⟨e, ?_, ?_, ?_⟩
  · unfold fldH; rw [e, e2]
  · unfold fldM; rw [e, hm]
  · unfold fldC; rw [e, hc]
theorem fnL_tab (N : Nat) (f : Nat → Int) : fnL ((List.range N).map f) = catB N f (fun _ => 0) := by
  funext j
  unfold fnL catB
  rw [List.getD_eq_getElem?_getD, List.getElem?_map]
  by_cases h : j < N
  · rw [List.getElem?_range h, if_pos h]; rfl
  · rw [List.getElem?_eq_none (by simpa using h), if_neg h]; rfl
theorem cut_flat : ∀ (GG : List (List Int)) (i : Nat) (L : List Int), GG[i]? = some L → cutL GG.flatten (sumB (GG.take i)) L.length = L
  | [], i, L, h => by cases i <;> cases h
  | G :: GG, 0, L, h => by
    injection h with h
    subst h
    unfold cutL sumB
    simp
  | G :: GG, i + 1, L, h => by
    have := cut_flat GG i L h
    unfold cutL at this ⊢
    rw [List.take_succ_cons, List.flatten_cons]
    have e : sumB (G :: GG.take i) = G.length + sumB (GG.take i) := by unfold sumB; simp
    rw [e, List.drop_append]
    simpa [Nat.add_sub_cancel_left, List.drop_eq_nil_of_le] using this
/-- Tags. -/
theorem tg_facts : (tgLoca.toList == [104, 101, 97, 100]) = false ∧ (tgGlyf.toList == [104, 101, 97, 100]) = false ∧ (tgHmtx.toList == [104, 101, 97, 100]) = false ∧ (tgMaxp.toList == [104, 101, 97, 100]) = false ∧ (tgHhea.toList == [104, 101, 97, 100]) = false := ⟨by kernel_rfl, by kernel_rfl, by kernel_rfl, by kernel_rfl, by kernel_rfl⟩
def eqS (s t : ByteArray) : Bool := t.toList == s.toList
theorem eqT_is (s t : ByteArray) (L : List Int) : eqT s ⟨t, L⟩ = eqS s t := rfl

theorem ne_HeadLoca : eqS tgHead tgLoca = false := by kernel_rfl

theorem ne_HeadGlyf : eqS tgHead tgGlyf = false := by kernel_rfl

theorem ne_HeadHmtx : eqS tgHead tgHmtx = false := by kernel_rfl

theorem ne_MaxpLoca : eqS tgMaxp tgLoca = false := by kernel_rfl

theorem ne_MaxpGlyf : eqS tgMaxp tgGlyf = false := by kernel_rfl

theorem ne_MaxpHmtx : eqS tgMaxp tgHmtx = false := by kernel_rfl

theorem ne_HheaLoca : eqS tgHhea tgLoca = false := by kernel_rfl

theorem ne_HheaGlyf : eqS tgHhea tgGlyf = false := by kernel_rfl

theorem ne_HheaHmtx : eqS tgHhea tgHmtx = false := by kernel_rfl

theorem ne_GvarLoca : eqS tgGvar tgLoca = false := by kernel_rfl

theorem ne_GvarGlyf : eqS tgGvar tgGlyf = false := by kernel_rfl

theorem ne_GvarHmtx : eqS tgGvar tgHmtx = false := by kernel_rfl

theorem ne_LocaGlyf : eqS tgLoca tgGlyf = false := by kernel_rfl

theorem ne_LocaHmtx : eqS tgLoca tgHmtx = false := by kernel_rfl

theorem ne_GlyfLoca : eqS tgGlyf tgLoca = false := by kernel_rfl

theorem ne_GlyfHmtx : eqS tgGlyf tgHmtx = false := by kernel_rfl

theorem ne_HmtxLoca : eqS tgHmtx tgLoca = false := by kernel_rfl

theorem ne_HmtxGlyf : eqS tgHmtx tgGlyf = false := by kernel_rfl


theorem eq_Loca : eqS tgLoca tgLoca = true := by kernel_rfl

theorem eq_Glyf : eqS tgGlyf tgGlyf = true := by kernel_rfl

theorem eq_Hmtx : eqS tgHmtx tgHmtx = true := by kernel_rfl

theorem has9_all (F : Fn9) (s : ByteArray) : has9 (all9 F) s = (((has9 F.TT s || eqS s tgLoca) || eqS s tgGlyf) || eqS s tgHmtx) := by
  unfold all9
  rw [has_with, has_with, has_with]; rfl
theorem dat9_loca (F : Fn9) : dat9 (all9 F) tgLoca = locB F := by
  unfold all9
  rw [dat_with_ne _ (show eqT tgLoca ⟨tgHmtx, hmtB F⟩ = false from ne_LocaHmtx), dat_with_ne _ (show eqT tgLoca ⟨tgGlyf, F.GG.flatten⟩ = false from ne_LocaGlyf), dat_with_eq _ (show eqT tgLoca ⟨tgLoca, locB F⟩ = true from eq_Loca)]
theorem dat9_glyf (F : Fn9) : dat9 (all9 F) tgGlyf = F.GG.flatten := by
  unfold all9
  rw [dat_with_ne _ (show eqT tgGlyf ⟨tgHmtx, hmtB F⟩ = false from ne_GlyfHmtx), dat_with_eq _ (show eqT tgGlyf ⟨tgGlyf, F.GG.flatten⟩ = true from eq_Glyf)]
theorem dat9_hmtx (F : Fn9) : dat9 (all9 F) tgHmtx = hmtB F := by
  unfold all9
  rw [dat_with_eq _ (show eqT tgHmtx ⟨tgHmtx, hmtB F⟩ = true from eq_Hmtx)]

theorem dat9_Head (F : Fn9) : dat9 (all9 F) tgHead = dat9 F.TT tgHead := by
  unfold all9
  rw [dat_with_ne _ (show eqT tgHead ⟨tgHmtx, hmtB F⟩ = false from ne_HeadHmtx), dat_with_ne _ (show eqT tgHead ⟨tgGlyf, F.GG.flatten⟩ = false from ne_HeadGlyf), dat_with_ne _ (show eqT tgHead ⟨tgLoca, locB F⟩ = false from ne_HeadLoca)]
theorem has9_Head (F : Fn9) : has9 (all9 F) tgHead = has9 F.TT tgHead := by
  rw [has9_all, ne_HeadLoca, ne_HeadGlyf, ne_HeadHmtx]; simp

theorem dat9_Maxp (F : Fn9) : dat9 (all9 F) tgMaxp = dat9 F.TT tgMaxp := by
  unfold all9
  rw [dat_with_ne _ (show eqT tgMaxp ⟨tgHmtx, hmtB F⟩ = false from ne_MaxpHmtx), dat_with_ne _ (show eqT tgMaxp ⟨tgGlyf, F.GG.flatten⟩ = false from ne_MaxpGlyf), dat_with_ne _ (show eqT tgMaxp ⟨tgLoca, locB F⟩ = false from ne_MaxpLoca)]
theorem has9_Maxp (F : Fn9) : has9 (all9 F) tgMaxp = has9 F.TT tgMaxp := by
  rw [has9_all, ne_MaxpLoca, ne_MaxpGlyf, ne_MaxpHmtx]; simp

theorem dat9_Hhea (F : Fn9) : dat9 (all9 F) tgHhea = dat9 F.TT tgHhea := by
  unfold all9
  rw [dat_with_ne _ (show eqT tgHhea ⟨tgHmtx, hmtB F⟩ = false from ne_HheaHmtx), dat_with_ne _ (show eqT tgHhea ⟨tgGlyf, F.GG.flatten⟩ = false from ne_HheaGlyf), dat_with_ne _ (show eqT tgHhea ⟨tgLoca, locB F⟩ = false from ne_HheaLoca)]
theorem has9_Hhea (F : Fn9) : has9 (all9 F) tgHhea = has9 F.TT tgHhea := by
  rw [has9_all, ne_HheaLoca, ne_HheaGlyf, ne_HheaHmtx]; simp

theorem filter_all (F : Fn9) (h : made9 F.TT = false) : (all9 F).filter (fun T => !isGen T) = F.TT := by
  unfold all9
  rw [filter_with _ (show isGen ⟨tgHmtx, hmtB F⟩ = true by show (eqS tgLoca tgHmtx || eqS tgGlyf tgHmtx || eqS tgHmtx tgHmtx) = true; rw [eq_Hmtx]; simp),
    filter_with _ (show isGen ⟨tgGlyf, F.GG.flatten⟩ = true by show (eqS tgLoca tgGlyf || eqS tgGlyf tgGlyf || eqS tgHmtx tgGlyf) = true; rw [eq_Glyf]; simp),
    filter_with _ (show isGen ⟨tgLoca, locB F⟩ = true by show (eqS tgLoca tgLoca || eqS tgGlyf tgLoca || eqS tgHmtx tgLoca) = true; rw [eq_Loca]; simp)]
  rw [List.filter_eq_self]
  intro T hT
  have := List.any_eq_false.1 h T hT
  unfold isGen
  simpa using this
theorem fld_all (F : Fn9) : fldE ((all9 F).map blankT) = fldE F.TT ∧ fldH ((all9 F).map blankT) = fldH F.TT ∧ fldM ((all9 F).map blankT) = fldM F.TT ∧ fldC ((all9 F).map blankT) = fldC F.TT := by
  refine fld_same ?_ ?_ ?_ ?_ ?_ ?_ ?_
  · rw [has_blank, has9_Head]
  · rw [has_blank, has9_Maxp]
  · rw [has_blank, has9_Hhea]
  · rw [(dat_head _).1, dat9_Head]
  · intro j hj; rw [(dat_head _).2 j (.inr hj), dat9_Head]
  · rw [dat_blank _ tg_facts.2.2.2.1, dat9_Maxp]
  · rw [dat_blank _ tg_facts.2.2.2.2, dat9_Hhea]
/-- The places and glyphs back. -/
theorem gly_back (F : Fn9) (hn : 1 ≤ F.GG.length ∧ F.GG.length ≤ 1024) (h : locE F = 0) : glyE (locB F) F.GG.flatten F.h.l (F.GG.length : Int) = 0 ∧ glyG (locB F) F.GG.flatten F.h.l F.GG.length = F.GG := by
  have hN : wrN F.h.l (pl9 F.GG) (F.GG.length + 1) = wide4 F.h.l * (F.GG.length + 1) := by
    unfold wrN
    rw [if_pos (show wrE F.h.l (pl9 F.GG) (F.GG.length + 1) = 0 from h)]
  have hf : fnL (locB F) = catB (wide4 F.h.l * (F.GG.length + 1)) (wrF F.h.l (pl9 F.GG)) (fun _ => 0) := by
    unfold locB
    rw [hN, fnL_tab]
  have hl : (locB F).length = wide4 F.h.l * (F.GG.length + 1) + 0 := by unfold locB; rw [hN]; simp
  have hE : rdE (fnL (locB F)) (locB F).length F.h.l (F.GG.length : Int) = 0 := by
    have := (back_rd (o := fun _ => 0) (m := 0) h (by omega)).1
    rw [hf, hl]
    rw [show ((F.GG.length + 1 : Nat) : Int) - 1 = (F.GG.length : Int) by omega] at this
    exact this
  have hv : ∀ i, i < F.GG.length + 1 → lcV (fnL (locB F)) F.h.l i = pl9 F.GG i := fun i hi => by rw [hf]; exact wr_value h hi
  constructor
  · unfold glyE
    rw [if_neg (by rw [hE]; simp), Int.toNat_natCast, hv _ (by omega), if_neg]
    unfold pl9
    rw [List.take_length, flat_len]
    omega
  · unfold glyG
    refine List.ext_getElem? fun i => ?_
    rw [List.getElem?_map]
    by_cases hi : i < F.GG.length
    · rw [List.getElem?_range hi, Option.map_some, hv i (by omega), hv (i + 1) (by omega)]
      have hL : F.GG[i]? = some F.GG[i] := List.getElem?_eq_getElem hi
      rw [pl9_next hL, hL]
      have h0 := (pl9_le F.GG i).1
      congr 1
      rw [show (pl9 F.GG i + (F.GG[i].length : Int)).toNat - (pl9 F.GG i).toNat = F.GG[i].length by omega]
      exact cut_flat F.GG i _ hL
    · rw [List.getElem?_eq_none (by simpa using hi), List.getElem?_eq_none (by omega)]; rfl
/-- The metrics back. -/
theorem met_back (F : Fn9) (h : hmtE F = 0) : mtE (hmtB F).length F.ct (F.MM.length : Int) = 0 ∧ (List.range F.MM.length).map (fun i => (mtA (fnL (hmtB F)) F.ct.toNat i, mtB (fnL (hmtB F)) F.ct.toNat i)) = F.MM := by
  have hE := h
  unfold hmtE at h
  unfold pmE at h
  by_cases h1 : F.MM.length < 1 ∨ 1024 < F.MM.length ∨ F.ct < 1 ∨ (F.MM.length : Int) < F.ct
  · rw [if_pos h1] at h; cases h
  · rw [if_neg h1] at h
    by_cases h2 : allB (fitM (mtX F.MM) (mtY F.MM)) F.MM.length = true
    · rw [if_pos h2] at h
      by_cases h3 : allB (samA (mtX F.MM) F.ct.toNat) F.MM.length = true
      · have hC : 1 ≤ F.ct.toNat ∧ F.ct.toNat ≤ F.MM.length := by omega
        have hN : pmN (mtX F.MM) (mtY F.MM) F.MM.length F.ct = 4 * F.ct.toNat + 2 * (F.MM.length - F.ct.toNat) := by
          unfold pmN
          rw [if_pos (show pmE (mtX F.MM) (mtY F.MM) F.MM.length F.ct = 0 from hE)]
          unfold pmP
          split <;> omega
        have hf : fnL (hmtB F) = catB (4 * F.ct.toNat + 2 * (F.MM.length - F.ct.toNat)) (pmF (mtX F.MM) (mtY F.MM) F.ct.toNat) (fun _ => 0) := by
          unfold hmtB
          rw [hN, fnL_tab]
        have hl : (hmtB F).length = 4 * F.ct.toNat + 2 * (F.MM.length - F.ct.toNat) := by unfold hmtB; rw [hN]; simp
        have hs : ∀ p m, p + m ≤ 4 * F.ct.toNat + 2 * (F.MM.length - F.ct.toNat) → numAt (fnL (hmtB F)) p m = numAt (pmF (mtX F.MM) (mtY F.MM) F.ct.toNat) p m := fun p m hp => numAt_same fun j _ hj => by rw [hf]; unfold catB; rw [if_pos (by omega)]
        constructor
        · unfold mtE
          rw [if_neg (by omega), if_neg (by rw [hl]; omega)]
        · refine List.ext_getElem? fun i => ?_
          rw [List.getElem?_map]
          by_cases hi : i < F.MM.length
          · rw [List.getElem?_range hi, Option.map_some]
            obtain ⟨b1, b2⟩ := pm_back hC h2 h3 hi
            have e1 : mtA (fnL (hmtB F)) F.ct.toNat i = mtX F.MM i := by
              rw [← b1]; unfold mtA
              split
              · exact hs _ _ (by omega)
              · exact hs _ _ (by omega)
            have e2 : mtB (fnL (hmtB F)) F.ct.toNat i = mtY F.MM i := by
              rw [← b2]; unfold mtB
              split
              · rw [hs _ _ (by omega)]
              · rw [hs _ _ (by omega)]
            rw [e1, e2, List.getElem?_eq_getElem hi]
            unfold mtX mtY
            rw [List.getD_eq_getElem?_getD, List.getElem?_eq_getElem hi]
            rfl
          · rw [List.getElem?_eq_none (by simpa using hi), List.getElem?_eq_none (by omega)]; rfl
      · rw [if_neg h3] at h; cases h
    · rw [if_neg h2] at h; cases h
/-- What a right font's bytes are read as. -/
def blank9 (F : Fn9) : Fn9 := ⟨F.TT.map blankT, F.h, F.m, F.MM, F.ct, F.GG⟩
theorem rd9_file {F : Fn9} (h : right9 F) : rd9 (file4 (all9 F)) = (0, blank9 F) := by
  obtain ⟨⟨hn, hmd, hgv, ⟨a1, a2, a3, a4⟩, hg, hmm⟩, hE, hr⟩ := h
  obtain ⟨f1, f2, f3, f4⟩ := fld_all F
  have hlE : locE F = 0 := by
    unfold allE at hE
    by_cases h0 : locE F = 0
    · exact h0
    · rw [if_pos h0] at hE; exact hE
  have hhE : hmtE F = 0 := by
    unfold allE at hE
    rw [if_neg (by omega)] at hE
    exact hE
  obtain ⟨g1, g2⟩ := gly_back F hn hlE
  obtain ⟨m1, m2⟩ := met_back F hhE
  have d0 : dat9 ((all9 F).map blankT) tgLoca = locB F := by rw [dat_blank _ tg_facts.1, dat9_loca]
  have d1 : dat9 ((all9 F).map blankT) tgGlyf = F.GG.flatten := by rw [dat_blank _ tg_facts.2.1, dat9_glyf]
  have d2 : dat9 ((all9 F).map blankT) tgHmtx = hmtB F := by rw [dat_blank _ tg_facts.2.2.1, dat9_hmtx]
  rw [a1] at f1
  rw [a2] at f2
  rw [a3] at f3
  rw [a4] at f4
  unfold rd9
  rw [rd4_file hr]
  rw [if_neg (by simp)]
  unfold rdT9
  rw [if_neg (by rw [has_blank, has9_all, hgv, ne_GvarLoca, ne_GvarGlyf, ne_GvarHmtx]; simp),
    if_neg (by rw [has_blank, has_blank, has_blank, has9_all, has9_all, has9_all, eq_Loca, eq_Glyf, eq_Hmtx]; simp),
    if_neg (by rw [f1]; simp), if_neg (by rw [f3, hg]; omega),
    if_neg (by rw [d0, d1, f2, f3, hg, g1]; simp), if_neg (by rw [d2, f4, f3, hg, ← hmm, m1]; simp)]
  rw [d0, d1, d2, f2, f3, f4, hg, Int.toNat_natCast, g2]
  rw [hmm] at m2
  rw [m2]
  show (0, (⟨((all9 F).map blankT).filter (fun T => !isGen T), F.h, F.m, F.MM, F.ct, F.GG⟩ : Fn9)) = (0, blank9 F)
  rw [filter_blank, filter_all F hmd]
  rfl
end Go.Proofs.YteckkcpnfeoehaaDoor
