/-
  Layer 4: a file in one of whose tables a byte is another one isn't read.
-/
import Derived.Test.YtpplnapfpoloiaaMgS
namespace Go.Proofs.Ytpplnapfpoloiaa
open Go.RowKit Go.ChangeShapes Go.WideShapes Go.Deep
set_option linter.unusedVariables false
set_option linter.unusedSimpArgs false

theorem cutL_set_out (L : List Int) (q p m : Nat) (y : Int) (h : q < p ∨ p + m ≤ q) : cutL (L.set q y) p m = cutL L p m := by
  unfold cutL
  apply List.ext_getElem?
  intro j
  rcases Nat.lt_or_ge j m with hj | hj
  · rw [List.getElem?_take_of_lt hj, List.getElem?_take_of_lt hj, List.getElem?_drop, List.getElem?_drop, List.getElem?_set_ne (by omega)]
  · rw [List.getElem?_eq_none (by rw [List.length_take]; omega), List.getElem?_eq_none (by rw [List.length_take]; omega)]
theorem cutL_set_in (L : List Int) (p m n : Nat) (y : Int) (h : n < m) : cutL (L.set (p + n) y) p m = (cutL L p m).set n y := by
  unfold cutL
  rw [List.drop_set, if_neg (by omega), show p + n - p = n by omega, List.take_set]
theorem rd1_congr {L M : List Int} {a : Nat} {last : ByteArray} (hl : L.length = M.length) (h16 : cutL L a 16 = cutL M a 16)
    (hd : cutL L (if (numAt (fnL M) (a + 12) 4).toNat = 0 then 0 else (numAt (fnL M) (a + 8) 4).toNat) (numAt (fnL M) (a + 12) 4).toNat = cutL M (if (numAt (fnL M) (a + 12) 4).toNat = 0 then 0 else (numAt (fnL M) (a + 8) 4).toNat) (numAt (fnL M) (a + 12) 4).toNat) : rd1 L a last = rd1 M a last := by
  have e0 : cutL L a 4 = cutL M a 4 := by
    have h1 := cutL_cut L a 16 0 4 (by omega)
    have h2 := cutL_cut M a 16 0 4 (by omega)
    rw [Nat.add_zero] at h1 h2
    rw [← h1, ← h2, h16]
  have e : ∀ k, k + 4 ≤ 16 → numAt (fnL L) (a + k) 4 = numAt (fnL M) (a + k) 4 := fun k hk => by
    rw [numAt_cut L, numAt_cut M, ← cutL_cut L a 16 k 4 hk, ← cutL_cut M a 16 k 4 hk, h16]
  unfold rd1
  rw [e0, e 4 (by omega), e 8 (by omega), e 12 (by omega), hl]
  simp only
  rw [hd]
theorem blank_set {s : ByteArray} {L : List Int} {n : Nat} {y : Int} (hn : n < L.length) (h : ¬ (adjT ⟨s, L⟩ = true ∧ 8 ≤ n ∧ n < 12)) :
    blank4 ⟨s, L.set n y⟩ = (blank4 ⟨s, L⟩).set n y ∧ fnL (blank4 ⟨s, L⟩) n = fnL L n := by
  have ha : adjT ⟨s, L.set n y⟩ = adjT ⟨s, L⟩ := adjT_len (List.length_set ..)
  by_cases hA : adjT ⟨s, L⟩ = true
  · have h12 := adjT_12 hA
    have hb : ∀ M, adjT ⟨s, M⟩ = true → blank4 ⟨s, M⟩ = M.take 8 ++ ([0, 0, 0, 0] ++ M.drop 12) := fun M hM => by unfold blank4; rw [if_pos hM]
    rw [hb _ (ha.trans hA), hb _ hA]
    simp only at h12
    rcases Nat.lt_or_ge n 8 with h8 | h8
    · constructor
      · rw [List.take_set, List.drop_set, if_pos (by omega), List.set_append_left _ _ (by rw [List.length_take]; omega)]
      · unfold fnL
        rw [List.getD_eq_getElem?_getD, List.getD_eq_getElem?_getD, List.getElem?_append_left (by rw [List.length_take]; omega), List.getElem?_take_of_lt h8]
    · have h12' : 12 ≤ n := by
        rcases Nat.lt_or_ge n 12 with h3 | h3
        · exact absurd ⟨hA, h8, h3⟩ h
        · exact h3
      have hlt : (L.take 8).length = 8 := by rw [List.length_take]; omega
      constructor
      · rw [List.take_set, List.set_eq_of_length_le (by rw [hlt]; omega), List.drop_set, if_neg (by omega), List.set_append_right _ _ (by rw [hlt]; omega), hlt,
          List.set_append_right _ _ (by simp only [List.length_cons, List.length_nil]; omega)]
        simp only [List.length_cons, List.length_nil]
        congr 3
      · unfold fnL
        rw [List.getD_eq_getElem?_getD, List.getD_eq_getElem?_getD, List.getElem?_append_right (by rw [hlt]; omega), hlt, List.getElem?_append_right (by simp only [List.length_cons, List.length_nil]; omega)]
        simp only [List.length_cons, List.length_nil]
        rw [List.getElem?_drop]
        congr 2
        omega
  · have hb : ∀ M, adjT ⟨s, M⟩ ≠ true → blank4 ⟨s, M⟩ = M := fun M hM => by unfold blank4; rw [if_neg hM]
    rw [hb _ (by rw [ha]; exact hA), hb _ hA]
    exact ⟨rfl, rfl⟩
/-- A byte of a table is another one. -/
def turn4 (TT : List Tb) (k : Nat) (v : Int) : List Int := (file4 TT).set k ((fnL (file4 TT) k + v) % 256)
theorem file4_nums {TT : List Tb} (h : right4 TT) {j : Nat} {T : Tb} (hj : TT[j]? = some T) : cutL (file4 TT) (12 + 16 * j) 4 = tagB T.tag ∧ numAt (fnL (file4 TT)) (12 + 16 * j + 4) 4 = sumI (blank4 T) ∧ numAt (fnL (file4 TT)) (12 + 16 * j + 8) 4 = (end4 (12 + 16 * TT.length) (TT.take j) : Int) ∧ numAt (fnL (file4 TT)) (12 + 16 * j + 12) 4 = (T.data.length : Int) := by
  have hen := file4_entry h hj
  have hT := h.2.2.2.1 j T hj
  obtain ⟨p0, p1, p2, p3⟩ := ent4_parts T (end4 (12 + 16 * TT.length) (TT.take j)) hT.1
  rw [← hen] at p0 p1 p2 p3
  rw [cutL_cut _ _ _ _ _ (by omega)] at p0 p1 p2 p3
  rw [Nat.add_zero] at p0
  have hst := end4_step (12 + 16 * TT.length) hj
  have hp := pad4_le T.data.length
  have hm := end4_take_le TT (12 + 16 * TT.length) (j + 1)
  have hsz := file4_len h
  have hs3 := h.2.2.1
  have hsum := sumI_range (blank4 T)
  unfold size4 at hsz hs3
  exact ⟨p0, by rw [numAt_cut, p1, num4_put]; omega, by rw [numAt_cut, p2, num4_put]; omega, by rw [numAt_cut, p3, num4_put]; omega⟩
/-- An entry ahead of the one whose table was turned. -/
theorem rd1_ahead {TT : List Tb} (h : right4 TT) {i j n : Nat} {T : Tb} {v : Int} (hj : TT[j]? = some T) (hij : j < i) {last : ByteArray} (hlast : Op.bytesLess last.toList T.tag.toList = true) (hil : i < TT.length) :
    rd1 (turn4 TT (end4 (12 + 16 * TT.length) (TT.take i) + n) v) (12 + 16 * j) last = (0, blankT T) := by
  rw [← rd1_file h hj hlast]
  obtain ⟨p0, p1, p2, p3⟩ := file4_nums h hj
  have hg := end4_ge (12 + 16 * TT.length) (TT.take i)
  have hst := end4_step (12 + 16 * TT.length) hj
  have hmo := end4_mono (12 + 16 * TT.length) TT (j + 1) i hij
  have hp := pad4_le T.data.length
  unfold turn4
  refine rd1_congr (List.length_set ..) (cutL_set_out _ _ _ _ _ (.inr (by omega))) ?_
  rw [p2, p3, Int.toNat_natCast, Int.toNat_natCast]
  refine cutL_set_out _ _ _ _ _ (.inr ?_)
  split <;> omega
/-- The entry of the table that was turned. -/
theorem rd1_turned {TT : List Tb} (h : right4 TT) (hb : ∀ T, T ∈ TT → Bytes T.data) (hbf : Bytes (file4 TT)) {i n : Nat} {T : Tb} {v : Int} (hi : TT[i]? = some T) (hn : n < T.data.length) (ha : ¬ (adjT T = true ∧ 8 ≤ n ∧ n < 12)) (hv : 1 ≤ v ∧ v ≤ 255) {last : ByteArray} (hlast : Op.bytesLess last.toList T.tag.toList = true) :
    (rd1 (turn4 TT (end4 (12 + 16 * TT.length) (TT.take i) + n) v) (12 + 16 * i) last).1 = 5 := by
  obtain ⟨p0, p1, p2, p3⟩ := file4_nums h hi
  have hT := h.2.2.2.1 i T hi
  have hg := end4_ge (12 + 16 * TT.length) (TT.take i)
  have hil : i < TT.length := by
    rcases Nat.lt_or_ge i TT.length with h2 | h2
    · exact h2
    · rw [List.getElem?_eq_none h2] at hi; cases hi
  have hst := end4_step (12 + 16 * TT.length) hi
  have hp := pad4_le T.data.length
  have hm := end4_take_le TT (12 + 16 * TT.length) (i + 1)
  have hsz := file4_len h
  unfold size4 at hsz
  have hdat := file4_data h hi
  generalize hP : end4 (12 + 16 * TT.length) (TT.take i) = P at *
  have hcl : (cutL (file4 TT) P T.data.length).length = T.data.length := cutL_len (by omega)
  have ha2 : adjT ⟨T.tag, cutL (file4 TT) P T.data.length⟩ = adjT T := adjT_len (s := T.tag) hcl
  have hbs := blank_set (s := T.tag) (L := cutL (file4 TT) P T.data.length) (n := n) (y := (fnL (file4 TT) (P + n) + v) % 256) (by omega) (by rw [ha2]; exact ha)
  have hG : cutL (turn4 TT (P + n) v) P T.data.length = (cutL (file4 TT) P T.data.length).set n ((fnL (file4 TT) (P + n) + v) % 256) := cutL_set_in _ _ _ _ _ hn
  have hfn : fnL (cutL (file4 TT) P T.data.length) n = fnL (file4 TT) (P + n) := cutL_get hn
  have hbl : (blank4 T).length = T.data.length := blank4_len T
  have e4 : ∀ k, k + 4 ≤ 16 → numAt (fnL (turn4 TT (P + n) v)) (12 + 16 * i + k) 4 = numAt (fnL (file4 TT)) (12 + 16 * i + k) 4 := fun k hk => by
    rw [numAt_cut, numAt_cut (file4 TT)]
    unfold turn4
    rw [cutL_set_out _ _ _ _ _ (.inr (by omega))]
  have e0 : cutL (turn4 TT (P + n) v) (12 + 16 * i) 4 = tagB T.tag := by
    unfold turn4
    rw [cutL_set_out _ _ _ _ _ (.inr (by omega)), p0]
  have hlen : (turn4 TT (P + n) v).length = (file4 TT).length := List.length_set ..
  have hne : sumI ((blank4 T).set n ((fnL (blank4 T) n + v) % 256)) ≠ sumI (blank4 T) := by
    unfold sumI
    rw [List.length_set]
    have hby := bytes_fn (bytes_blank (hb T (List.mem_of_getElem? hi))) n (by omega)
    refine accu_differs (i := n) (v := v) (fun j hj => ?_) (by omega) hby hv ?_
    · unfold fnL
      rw [List.getD_eq_getElem?_getD, List.getElem?_set_ne (by omega), List.getD_eq_getElem?_getD]
    · unfold fnL
      rw [List.getD_eq_getElem?_getD, List.getElem?_set_self (by omega)]
      rfl
  rw [hdat] at hbs
  rw [hfn] at hbs
  unfold rd1
  rw [e0, e4 4 (by omega), e4 8 (by omega), e4 12 (by omega), p1, p2, p3, hlen, strOf_tag]
  rw [if_neg (by rw [hlast, show TagG T.tag = true from decide_eq_true hT]; simp)]
  simp only [Int.toNat_natCast]
  rw [if_neg (show ¬ T.data.length = 0 by omega), if_neg (by omega), hG, hbs.1, ← hbs.2, if_neg hne]
theorem rd4_turned_go {TT : List Tb} (h : right4 TT) (hb : ∀ T, T ∈ TT → Bytes T.data) (hbf : Bytes (file4 TT)) {i n : Nat} {T : Tb} {v : Int} (hi : TT[i]? = some T) (hn : n < T.data.length) (ha : ¬ (adjT T = true ∧ 8 ≤ n ∧ n < 12)) (hv : 1 ≤ v ∧ v ≤ 255) :
    ∀ (k j : Nat) (last : ByteArray), j + k = TT.length → j ≤ i → (∀ T, TT[j]? = some T → Op.bytesLess last.toList T.tag.toList = true) → rd4Go (turn4 TT (end4 (12 + 16 * TT.length) (TT.take i) + n) v) k j last = (5, []) := by
  have hil : i < TT.length := by
    rcases Nat.lt_or_ge i TT.length with h2 | h2
    · exact h2
    · rw [List.getElem?_eq_none h2] at hi; cases hi
  intro k
  induction k with
  | zero => intro j last hjk hji _; omega
  | succ k ih =>
    intro j last hjk hji hl
    have hjl : j < TT.length := by omega
    have hj : TT[j]? = some TT[j] := List.getElem?_eq_getElem hjl
    rcases Nat.lt_or_ge j i with hlt | hge
    · have h1 := rd1_ahead (n := n) (v := v) h hj hlt (hl _ hj) hil
      have h2 := ih (j + 1) TT[j].tag (by omega) (by omega) (fun U hU => h.2.2.2.2 j _ U hj hU)
      have h3 : contR (rd4Go (turn4 TT (end4 (12 + 16 * TT.length) (TT.take i) + n) v) (k + 1) j last) [] = _ := rd4_next (by rw [h1])
      rw [h1] at h3
      have h4 : (blankT TT[j]).tag = TT[j].tag := rfl
      simp only [h4, h2] at h3
      rw [rd4_start, h3]
      rfl
    · obtain rfl : j = i := by omega
      have h1 := rd1_turned h hb hbf hi hn ha hv (hl _ hi)
      have h3 : contR (rd4Go (turn4 TT (end4 (12 + 16 * TT.length) (TT.take j) + n) v) (k + 1) j last) [] = _ := rd4_stop (by rw [h1]; omega)
      rw [rd4_start, h3, h1]
theorem file4_head {TT : List Tb} (h : right4 TT) : numAt (fnL (file4 TT)) 0 4 = 65536 ∧ numAt (fnL (file4 TT)) 4 2 = (TT.length : Int) := by
  have hN2 := h.2.1
  have ha := adj4_ok TT (-1) (12 + 16 * TT.length)
  have hd : cutL (file4 TT) 0 12 = dir4 TT.length := by
    rw [file4_cut h 0 12 (by omega)]
    unfold raw4
    rw [cutL_app_left (by rw [List.length_append, dir4_len]; omega), cutL_app_left (by rw [dir4_len]; omega), ← dir4_len TT.length, cutL_all]
  have h4 := putL_len 65536 4
  have h2 := putL_len (TT.length : Int) 2
  have q1 : cutL (file4 TT) 0 4 = putL 65536 4 := by
    have := cutL_cut (file4 TT) 0 12 0 4 (by omega)
    rw [← this, hd]
    unfold dir4
    generalize putL 65536 4 = A at *
    rw [cutL_app_left (by omega), ← h4, cutL_all]
  have q2 : cutL (file4 TT) 4 2 = putL (TT.length : Int) 2 := by
    have := cutL_cut (file4 TT) 0 12 4 2 (by omega)
    rw [Nat.zero_add] at this
    rw [← this, hd]
    unfold dir4
    generalize putL 65536 4 = A at *
    generalize putL (TT.length : Int) 2 = B at *
    rw [show 4 = A.length + 0 by omega, cutL_app_right, cutL_app_left (by omega), ← h2, cutL_all]
  exact ⟨by rw [numAt_cut, q1, num4_put]; rfl, by rw [numAt_cut, q2, num2_put]; omega⟩
theorem empty_less {s : ByteArray} (h : s.size = 4) : Op.bytesLess ByteArray.empty.toList s.toList = true := by
  cases hb : s.toList with
  | nil =>
    exfalso
    have hx : s.data.toList = s.toList := (ByteArray.toList_eq _).symm
    have : s.data.toList.length = 4 := by rw [Array.length_toList]; exact h
    rw [hx, hb] at this
    cases this
  | cons a l => rw [ByteArray.toList_eq]; rfl
theorem bytes_filez {TT : List Tb} (h : ∀ T, T ∈ TT → Bytes T.data) : Bytes (file4 TT) := by
  have hr := bytes_raw h
  unfold file4
  split
  · exact hr
  · unfold layL
    exact bytes_app (fun v hv => hr v (List.mem_of_mem_take hv)) (bytes_app (bytes_put _ _) (fun v hv => hr v (List.mem_of_mem_drop hv)))
/-- A byte of a table turned: ErrSum. -/
theorem rd4_turned {TT : List Tb} (h : right4 TT) (hb : ∀ T, T ∈ TT → Bytes T.data) (hbf : Bytes (file4 TT)) {i n : Nat} {T : Tb} {v : Int} (hi : TT[i]? = some T) (hn : n < T.data.length) (ha : ¬ (adjT T = true ∧ 8 ≤ n ∧ n < 12)) (hv : 1 ≤ v ∧ v ≤ 255) :
    rd4 (turn4 TT (end4 (12 + 16 * TT.length) (TT.take i) + n) v) = (5, []) := by
  have hsz := file4_len h
  have hs3 := h.2.2.1
  have hN1 := h.1
  have hN2 := h.2.1
  have hg : 12 + 16 * TT.length ≤ size4 TT := end4_ge _ _
  have hgi := end4_ge (12 + 16 * TT.length) (TT.take i)
  have hfr := rd4_file h
  have hlen : (turn4 TT (end4 (12 + 16 * TT.length) (TT.take i) + n) v).length = (file4 TT).length := List.length_set ..
  have e4 : ∀ p k, p + k ≤ 12 → numAt (fnL (turn4 TT (end4 (12 + 16 * TT.length) (TT.take i) + n) v)) p k = numAt (fnL (file4 TT)) p k := fun p k hk => by
    rw [numAt_cut, numAt_cut (file4 TT)]
    unfold turn4
    rw [cutL_set_out _ _ _ _ _ (.inr (by omega))]
  obtain ⟨n1, n2⟩ := file4_head h
  have hT0 := rd4_turned_go h hb hbf hi hn ha hv TT.length 0 ByteArray.empty (by omega) (by omega) (fun T hT => empty_less (h.2.2.2.1 0 T hT).1)
  unfold rd4
  rw [hlen, if_neg (by omega), if_neg (by omega), e4 0 4 (by omega), e4 4 2 (by omega), n1, n2, if_neg (by omega), Int.toNat_natCast, if_neg (by omega), hT0]
end Go.Proofs.Ytpplnapfpoloiaa
