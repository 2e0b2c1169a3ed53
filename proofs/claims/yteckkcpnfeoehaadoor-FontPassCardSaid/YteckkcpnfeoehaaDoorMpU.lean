/-
  Texts of this seat, put together: each with its own head.
-/
import Derived.Test.YteckkcpnfeoehaaDoorMpS
import Derived.Test.YteckkcpnfeoehaaDoorMpH
import Derived.Test.YteckkcpnfeoehaaDoorMpG
import Derived.Test.YteckkcpnfeoehaaDoorMpI
import Derived.Test.YteckkcpnfeoehaaDoorFoI
import Derived.Sort.Walk0

/-
  Layer 4: the document's Read, where what is read was written.
-/
namespace Go.Proofs.YteckkcpnfeoehaaDoor
set_option maxRecDepth 100000
open Go.RowKit Go.ChangeShapes Go.WideShapes Go.Deep
set_option linter.unusedVariables false
set_option linter.unusedSimpArgs false

/-- What stands at an entry of a file. -/
theorem file4_at {TT : List Tb} (h : right4 TT) {j : Nat} {T : Tb} (hj : TT[j]? = some T) : strOf (cutL (file4 TT) (12 + 16 * j) 4) = T.tag ∧ numAt (fnL (file4 TT)) (12 + 16 * j + 4) 4 = sumI (blank4 T) ∧ ∃ p : Nat, numAt (fnL (file4 TT)) (12 + 16 * j + 8) 4 = (p : Int) ∧ numAt (fnL (file4 TT)) (12 + 16 * j + 12) 4 = (T.data.length : Int) ∧ p + T.data.length ≤ (file4 TT).length ∧ blank4 ⟨T.tag, cutL (file4 TT) p T.data.length⟩ = blank4 T ∧ TagG T.tag = true ∧ T.tag.size = 4 ∧ 12 + 16 * j + 16 ≤ (file4 TT).length := by
  have hen := file4_entry h hj
  have hT := h.2.2.2.1 j T hj
  obtain ⟨p0, p1, p2, p3⟩ := ent4_parts T (end4 (12 + 16 * TT.length) (TT.take j)) hT.1
  rw [← hen] at p0 p1 p2 p3
  rw [cutL_cut _ _ _ _ _ (by omega)] at p0 p1 p2 p3
  rw [Nat.add_zero] at p0
  have hst := end4_step (12 + 16 * TT.length) hj
  have hp := pad4_le T.data.length
  have hm := end4_take_le TT (12 + 16 * TT.length) (j + 1)
  have hsz := file4_len h
  have hs3 := h.2.2.1
  have hsum := sumI_range (blank4 T)
  have n1 : numAt (fnL (file4 TT)) (12 + 16 * j + 4) 4 = sumI (blank4 T) := by rw [numAt_cut, p1, num4_put]; omega
  have hdat := file4_data h hj
  have hge := end4_ge (12 + 16 * TT.length) TT
  have hjl : j < TT.length := by
    rcases Nat.lt_or_ge j TT.length with h | h
    · exact h
    · rw [List.getElem?_eq_none h] at hj; cases hj
  unfold size4 at hsz hs3
  have n2 : numAt (fnL (file4 TT)) (12 + 16 * j + 8) 4 = (end4 (12 + 16 * TT.length) (TT.take j) : Int) := by rw [numAt_cut, p2, num4_put]; omega
  have n3 : numAt (fnL (file4 TT)) (12 + 16 * j + 12) 4 = (T.data.length : Int) := by rw [numAt_cut, p3, num4_put]; omega
  exact ⟨by rw [p0, strOf_tag], n1, _, n2, n3, by omega, hdat, decide_eq_true hT, hT.1, by omega⟩
theorem ru4_l (A : Option Addr) (n c : Nat) (L : List Int) (a k : Nat) (x y : Int) (hx : x = (a : Int)) (hy : y = (k : Int)) (hk : 1 ≤ k ∧ k ≤ 4) (w : World) (h : RdB w w.heap.size A L) (hn : n = L.length) (hb : Bytes L) (ha : a + k ≤ n) (hN : n ≤ 140737488355328) :
    Calls Tryd.prog 47 #[.slice A n c, .int .i64 x, .int .i64 y] w fun e w' => e = .returned (.tuple #[.int .i64 (numAt (fnL L) a k), .int .i64 0]) ∧ w' = w := by
  subst hn; subst hx; subst hy
  have h0 := ref_u A L.length c (fnL L) (a : Int) (k : Int) w (rdb_rd h) (bytes_fn hb) (by unfold In64; omega) (by unfold In64; omega) hN
  have e : uAns (fnL L) L.length (a : Int) (k : Int) = (numAt (fnL L) a k, 0) := by
    unfold uAns
    rw [if_neg (by omega), if_pos (by unfold Fits; omega), Int.toNat_natCast, Int.toNat_natCast]
  rw [e] at h0
  exact h0
theorem rcut4 (A : Option Addr) (n c : Nat) (L : List Int) (p m : Nat) (x y : Int) (hx : x = (p : Int)) (hy : y = (m : Int)) (w : World) (h : RdB w w.heap.size A L) (hn : n = L.length) (hp : p + m ≤ n) (hN : n ≤ 140737488355328) (hnc : n ≤ c) :
    Calls Tryd.prog 49 #[.slice A n c, .int .i64 x, .int .i64 y] w fun e w' => ∃ A' c', e = .returned (.tuple #[.slice A' m c', .int .i64 0]) ∧ RdB w' w'.heap.size A' (cutL L p m) ∧ Since w w' := by
  subst hn; subst hx; subst hy
  refine (ref_cut A L.length c (fnL L) (p : Int) (m : Int) w (rdb_rd h) (by unfold In64; omega) (by unfold In64; omega) hN hnc).mono ?_
  rintro e w' ⟨A', m', c', rfl, hm, hc, hw, hS⟩
  obtain ⟨e1, e2⟩ := cut_yes (n := L.length) (i := (p : Int)) (k := (m : Int)) ⟨by omega, by unfold Fits; omega⟩
  rw [e2, Int.toNat_natCast] at hm
  subst hm
  refine ⟨A', c', by rw [e1], ?_, hS⟩
  exact rdb_of hw.rd (cutL_len hp).symm (fun j hj => by rw [Int.toNat_natCast]; exact (cutL_get hj).symm)
theorem file4_head {TT : List Tb} (h : right4 TT) : numAt (fnL (file4 TT)) 0 4 = 65536 ∧ numAt (fnL (file4 TT)) 4 2 = (TT.length : Int) := by
  have hsz := file4_len h
  have hs3 := h.2.2.1
  have hN1 := h.1
  have hN2 := h.2.1
  have hg : 12 + 16 * TT.length ≤ size4 TT := end4_ge _ _
  have ha := adj4_ok TT (-1) (12 + 16 * TT.length)
  have hd : cutL (file4 TT) 0 12 = dir4 TT.length := by
    rw [file4_cut h 0 12 (by omega)]
    unfold raw4
    rw [cutL_app_left (by rw [List.length_append, dir4_len]; omega), cutL_app_left (by rw [dir4_len]; omega), ← dir4_len TT.length, cutL_all]
  have h4 := putL_len 65536 4
  have h2 := putL_len (TT.length : Int) 2
  have q1 : cutL (file4 TT) 0 4 = putL 65536 4 := by
    have := cutL_cut (file4 TT) 0 12 0 4 (by omega)
    rw [← this, hd]
    unfold dir4
    generalize putL 65536 4 = A at *
    rw [cutL_app_left (by omega), ← h4, cutL_all]
  have q2 : cutL (file4 TT) 4 2 = putL (TT.length : Int) 2 := by
    have := cutL_cut (file4 TT) 0 12 4 2 (by omega)
    rw [Nat.zero_add] at this
    rw [← this, hd]
    unfold dir4
    generalize putL 65536 4 = A at *
    generalize putL (TT.length : Int) 2 = B at *
    rw [show 4 = A.length + 0 by omega, cutL_app_right, cutL_app_left (by omega), ← h2, cutL_all]
  have n1 : numAt (fnL (file4 TT)) 0 4 = 65536 := by rw [numAt_cut, q1, num4_put]; rfl
  have n2 : numAt (fnL (file4 TT)) 4 2 = (TT.length : Int) := by rw [numAt_cut, q2, num2_put]; omega
  exact ⟨n1, n2⟩
theorem wpList_append_tb {w : World} {ops : Array Oper} {rest : List Oper} {o : Oper} {a : Act} {Q : Exit → Act → World → Prop} (hgd : o.guard = none) (s x : Operand)
    (ho : o.op = .call { callee := .builtin .append, args := #[s, x], argTypes := #[22, 22] })
    (base : Nat) (v : Value) (TT : List Tb) (hs : a.eval s = v) (hown : OwnT w base v TT) (b c : Nat) (t : ByteArray) (A' : Option Addr) (n' c' : Nat) (L : List Int) (hx : a.eval x = .slice (some ⟨b, 0, none⟩) 1 c) (ty : TypeId) (hb : b = w.heap.size) (hrow : OwnB w base (.slice A' n' c') L) (hL : TT.length ≤ 1000000) (hbase : base ≤ w.heap.size)
    (h : ∀ v' w', OwnT w' base v' (TT ++ [⟨t, L⟩]) → (w.alloc (.cells #[.string t, .slice A' n' c'] ty)).grownBy w' v.ownBlock → (∀ q, v.ownBlock = some q → base ≤ q ∧ q < w.heap.size) → wpList Tryd.prog ops Q rest (a.put o.dst v') w') : wpList Tryd.prog ops Q (o :: rest) a (w.alloc (.cells #[.string t, .slice A' n' c'] ty)) :=
  wpList_plain hgd fun K hK => oper_append_tb s x ho base v TT hs hown b c t A' n' c' L hx ty hb hrow hL hbase fun v' w' h1 h2 h3 => hK _ _ (h v' w' h1 h2 h3)
theorem tb_last {w : World} {base : Nat} {v : Value} {TT : List Tb} {i : Nat} {T : Tb} (h : OwnT w base v TT) (hi : TT[i]? = some T) : ∃ q c, v = .slice (some ⟨q, 0, none⟩) TT.length c ∧ w.cell? ⟨q, i * 2, none⟩ = some (.string T.tag) := by
  have hl : i < TT.length := by
    rcases Nat.lt_or_ge i TT.length with h | h
    · exact h
    · rw [List.getElem?_eq_none h] at hi; cases hi
  obtain ⟨q, c, e⟩ := OwnT.some h (by omega)
  subst e
  obtain ⟨A', c', e, _, hr⟩ := h.rd
  injection e with e _ _
  obtain ⟨b, o, A2, c2, e2, _, h0, _, _⟩ := hr.row hi
  rw [← e] at e2
  injection e2 with e2
  injection e2 with e2 e3
  subst e2 e3
  rw [Nat.zero_add] at h0
  exact ⟨q, c, rfl, h0⟩
set_option maxRecDepth 1000000 in
set_option maxHeartbeats 64000000 in
theorem rf_read4 (TT : List Tb) (A : Option Addr) (n c : Nat) (w : World) (h : RdB w w.heap.size A (file4 TT)) (hn : n = (file4 TT).length) (hr : right4 TT) (hb : Bytes (file4 TT)) (hnc : n ≤ c) :
    Calls Tryd.prog 17 #[.slice A n c] w fun e w' => ∃ A' c', e = .returned (.tuple #[.slice A' TT.length c', .int .i64 0]) ∧ OwnT w' w.heap.size (.slice A' TT.length c') (TT.map blankT) ∧ Since w w' := by
  obtain ⟨N, hN⟩ : ∃ N, N = TT.length := ⟨_, rfl⟩
  have hlen := file4_len hr
  have hge : 12 + 16 * TT.length ≤ size4 TT := end4_ge _ _
  have hN1 := hr.1
  have hN2 := hr.2.1
  have hs3 := hr.2.2.1
  obtain ⟨hd1, hd2⟩ := file4_head hr
  rw [← hN] at hd2 hge hN1 hN2
  have hn12 : 12 + 16 * N ≤ n := by omega
  have hnm : n ≤ 1048576 := by omega
  have HAT := Lib.hid (fun (j : Nat) (T : Tb) (hj : TT[j]? = some T) => file4_at hr hj)
  have HORD := Lib.hid hr.2.2.2.2
  generalize file4 TT = L at *
  obtain ⟨b, o, rfl, hbz, hc⟩ := id (h (by omega))
  have HH := Lib.hid h
  have HNL := Lib.hid hn
  have HB := Lib.hid hb
  have HCL := Lib.hid (fun (j : Nat) (hj : j < L.length) => hc j _ (fnL_get hj) 0 (by omega))
  have HU0 := Lib.hid (fun (w2 : World) (h2 : Since w w2) => ru4_l (some ⟨b, o, none⟩) n c L 0 4 0 4 rfl rfl (by omega) w2 (RdG.on h h2) hn hb (by omega) (by omega))
  have HU1 := Lib.hid (fun (w2 : World) (h2 : Since w w2) => ru4_l (some ⟨b, o, none⟩) n c L 4 2 4 2 rfl rfl (by omega) w2 (RdG.on h h2) hn hb (by omega) (by omega))
  rw [hd1] at HU0
  rw [hd2] at HU1
  have HN := Lib.hid hN
  have hnI : (n : Int) ≤ 1048576 := by omega
  have hn0 : (12 : Int) ≤ (n : Int) := by omega
  have hNI : (1 : Int) ≤ (N : Int) := by omega
  have hNJ : (N : Int) ≤ 64 := by omega
  have m1 : IntKind.i64.wrap (16 * (N : Int)) = 16 * (N : Int) := by rw [IntKind.wrap_i64]; omega
  have m2 : IntKind.i64.wrap (12 + 16 * (N : Int)) = 12 + 16 * (N : Int) := by rw [IntKind.wrap_i64]; omega
  have d1 : ¬ (n : Int) < 12 + 16 * (N : Int) := by omega
  have d2 : ¬ (1048576 : Int) < (n : Int) := by omega
  have d3 : ¬ (n : Int) < 12 := by omega
  have d4 : decide ((N : Int) < 1) = false := by simp; omega
  have d5 : decide ((64 : Int) < (N : Int)) = false := by simp; omega
  clear h hn hb hc hlen hge hs3 hd1 hd2 hr hN hN1
  go_enter Tryd.func17, Tryd.ntmps17
  go_upto_region 13 with (first | (go_at_call 47; (with_reducible refine (HU0.out _ (Since.refl w)).mono ?_); rintro e w2 ⟨rfl, hw2⟩; have hw3 := hw2.symm; subst hw3; clear hw2) | (go_at_call 47; (with_reducible refine (HU1.out _ (Since.refl w)).mono ?_); rintro e w2 ⟨rfl, hw2⟩; have hw3 := hw2.symm; subst hw3; clear hw2))
  have HU := Lib.hid (fun (w2 : World) (h2 : Since w w2) (a : Nat) (x : Int) (hx : x = (a : Int)) (ha : a + 4 ≤ n) => ru4_l (some ⟨b, o, none⟩) n c L a 4 x 4 hx rfl (by omega) w2 (RdG.on HH.out h2) HNL.out HB.out ha (by omega))
  have HCT := Lib.hid (fun (w2 : World) (h2 : Since w w2) (p m : Nat) (hp : p + m ≤ n) => rcut4 (some ⟨b, o, none⟩) n c L p m (p : Int) (m : Int) rfl rfl w2 (RdG.on HH.out h2) HNL.out hp (by omega) hnc)
  have HCV := Lib.hid (fun (w2 : World) (h2 : Since w w2) (a : Nat) (ha : a + 4 ≤ n) (k : Nat) => (conv_str (w := w2) (b := b) (o := o + a) (M := cutL L a 4) (fun j hj => by
    have e4 := cutL_len (L := L) (p := a) (m := 4) (by rw [← HNL.out]; omega)
    rw [e4] at hj
    have h1 := HCL.out (a + j) (by rw [← HNL.out]; omega)
    rw [cutL_get hj, h2.1 b _ hbz]
    rw [show o + (a + j) * 1 + 0 = o + a + j by omega] at h1
    exact h1) (bytes_cut HB.out a 4) 4 (cutL_len (by rw [← HNL.out]; omega)).symm k))
  clear HU0 HU1 m1 m2 d1 d2 d3 d4 d5 hn0
  go_loopw [8, 9] (fun v y wr => ∃ i : Nat, i ≤ N ∧ y = .int .i64 (i : Int) ∧ OwnT wr w.heap.size v ((TT.map blankT).take i) ∧ Since w wr) (fun _ y _ => N - (intOf y).toNat)
  case atStart => exact ⟨0, by omega, rfl, by rw [List.take_zero]; exact OwnT.nil _ _, Since.refl _⟩
  case round =>
    obtain ⟨i, hi, rfl, hO, hS⟩ := hrel
    by_cases hiN : i < N
    · have hiN' : (i : Int) < N := by omega
      have hiL : i < TT.length := by rw [← HN.out]; exact hiN
      have hT : TT[i]? = some TT[i] := List.getElem?_eq_getElem hiL
      obtain ⟨a1, a2, p, a3, a4, a5, a6, a7, a8, a9⟩ := HAT.out i _ hT
      have HTK := Lib.hid (show (TT.map blankT).take (i + 1) = (TT.map blankT).take i ++ [blankT TT[i]] by rw [List.take_succ_eq_append_getElem (by rw [List.length_map]; exact hiL), List.getElem_map])
      have hml : TT[i].data.length ≤ 1048576 := by rw [← HNL.out] at a5; omega
      have HORI := Lib.hid (fun (k : Nat) (hk : i = k + 1) (U : Tb) (hU : TT[k]? = some U) => HORD.out k U TT[i] hU (by rw [← hk]; exact hT))
      generalize TT[i] = T at *
      obtain ⟨s, D⟩ := T
      simp only at a1 a2 a4 a5 a6 a7 a8 hml
      rw [← HNL.out] at a5 a9
      obtain ⟨m, hm⟩ : ∃ m, m = D.length := ⟨_, rfl⟩
      rw [← hm] at a4 a5 a6 hml
      have HM := Lib.hid hm
      clear hm
      have m1 : IntKind.i64.wrap (16 * (i : Int)) = 16 * (i : Int) := by rw [IntKind.wrap_i64]; omega
      have m2 : IntKind.i64.wrap (12 + 16 * (i : Int)) = 12 + 16 * (i : Int) := by rw [IntKind.wrap_i64]; omega
      have m3 : IntKind.i64.wrap (12 + 16 * (i : Int) + 4) = 12 + 16 * (i : Int) + 4 := by rw [IntKind.wrap_i64]; omega
      have m4 : IntKind.i64.wrap (12 + 16 * (i : Int) + 8) = 12 + 16 * (i : Int) + 8 := by rw [IntKind.wrap_i64]; omega
      have m5 : IntKind.i64.wrap (12 + 16 * (i : Int) + 12) = 12 + 16 * (i : Int) + 12 := by rw [IntKind.wrap_i64]; omega
      have m6 : (12 + 16 * (i : Int)).toNat = 12 + 16 * i := by omega
      have m7 : (12 + 16 * (i : Int) + 4).toNat = 12 + 16 * i + 4 := by omega
      have hC := fun k => HCV.out wr hS (12 + 16 * i) (by omega) k
      rw [a1] at hC
      have c1 : (0 : Int) ≤ 12 + 16 * (i : Int) := by omega
      have c2 : (12 + 16 * (i : Int)) ≤ 12 + 16 * (i : Int) + 4 := by omega
      have c3 : (12 + 16 * (i : Int) + 4) ≤ (c : Int) := by omega
      have c4 : ¬ c = 12 + 16 * i := by omega
      have hU4 := HU.out wr hS (12 + 16 * i + 4) (12 + 16 * (i : Int) + 4) (by omega) (by omega)
      have hU8 := HU.out wr hS (12 + 16 * i + 8) (12 + 16 * (i : Int) + 8) (by omega) (by omega)
      have hU12 := HU.out wr hS (12 + 16 * i + 12) (12 + 16 * (i : Int) + 12) (by omega) (by omega)
      rw [a2] at hU4
      rw [a3] at hU8
      rw [a4] at hU12
      have HA6 := Lib.hid a6
      clear a2 a3 a4 a6 hT hiL a1
      go_upto_region 20 with (first | (go_at_call 47; (with_reducible refine hU4.mono ?_); rintro e w2 ⟨rfl, hw2⟩; have hw3 := hw2.symm; subst hw3; clear hw2) | (go_at_call 47; (with_reducible refine hU8.mono ?_); rintro e w2 ⟨rfl, hw2⟩; have hw3 := hw2.symm; subst hw3; clear hw2) | (go_at_call 47; (with_reducible refine hU12.mono ?_); rintro e w2 ⟨rfl, hw2⟩; have hw3 := hw2.symm; subst hw3; clear hw2))
      clear hU4 hU8 hU12 hC c1 c2 c3 c4 m3 m4 m5 m7 m1 m2
      have hss : s.size ≤ maxLen := by rw [a8]; simp only [maxLen]; omega
      have hTG := fun (w2 : World) => rf_tagged s w2 hss
      rw [a7] at hTG
      have HO := Lib.hid hO
      have HS := Lib.hid hS
      have hpm := a5
      clear a5 a7 a8 a9 hss
      have HP := Lib.hid (show p + m ≤ n from hpm)
      have hSQ := HS.out
      have HTG := Lib.hid hTG
      clear hTG
      have hrc := HCT.out wr hSQ p m (by have := HP.out; omega)
      have hcb : Bytes (cutL L p m) := bytes_cut HB.out p m
      have hcl : (cutL L p m).length = m := cutL_len (by rw [← HNL.out]; have := HP.out; omega)
      have hbl : (blank4 ⟨s, cutL L p m⟩).length = m := (blank4_len ⟨s, cutL L p m⟩).trans hcl
      have hbb := bytes_blank (T := ⟨s, cutL L p m⟩) hcb
      have HBK := Lib.hid (fun (w2 : World) (A2 : Option Addr) (c2 : Nat) (hr : RdB w2 w2.heap.size A2 (cutL L p m)) => (rf_blank ⟨s, cutL L p m⟩ A2 m c2 w2 hr hcl.symm (by omega)).mono (R' := fun e w' => ∃ A9 c9, e = .returned (.slice A9 m c9) ∧ OwnB w' w2.heap.size (.slice A9 m c9) (blank4 ⟨s, D⟩) ∧ Since w2 w') (by
        rintro e w' ⟨v, rfl, hO, hS⟩
        obtain ⟨A9, c9, rfl, _, _⟩ := OwnG.rd (by omega) byL_len hO
        rw [hbl] at hO ⊢
        rw [← HA6.out]
        exact ⟨A9, c9, rfl, hO, hS⟩))
      rw [HA6.out] at hbb hbl
      have HSM := Lib.hid (fun (w2 : World) (A2 : Option Addr) (c2 : Nat) (hr : RdB w2 w2.heap.size A2 (blank4 ⟨s, D⟩)) => rf_sum4 A2 m c2 (blank4 ⟨s, D⟩) w2 hr hbl.symm hbb (by omega))
      have hsr := sumI_range (blank4 ⟨s, D⟩)
      generalize sumI (blank4 ⟨s, D⟩) = sm at *
      have msm : IntKind.i64.wrap sm = sm := by rw [IntKind.wrap_i64]; omega
      have htl := Lib.hid (show ((TT.map blankT).take i).length ≤ 1000000 by rw [List.length_take]; omega)
      replace HTK : Hid ((TT.map blankT).take (i + 1) = (TT.map blankT).take i ++ [⟨s, blank4 ⟨s, D⟩⟩]) := HTK
      have HTIL := Lib.hid (show ((TT.map blankT).take i).length = i by rw [List.length_take, List.length_map]; have := HN.out; omega)
      have HLST := Lib.hid (fun (k : Nat) (hik : i = k + 1) (hkL : k < TT.length) => (by rw [List.getElem?_take_of_lt (by omega), List.getElem?_map, List.getElem?_eq_getElem hkL]; rfl : ((TT.map blankT).take i)[k]? = some (blankT TT[k])))
      generalize (TT.map blankT).take i = TI at *
      generalize blank4 ⟨s, D⟩ = BD at *
      clear hcb hcl hbl hbb HA6 m6
      by_cases hi0 : i = 0
      · have hi1 : ¬ (0 : Int) < (i : Int) := by omega
        clear hO hi0
        go_upto_region 29 with (first | (go_at_call 48; (with_reducible refine (HTG.out _).mono ?_); rintro e w2 ⟨rfl, hw2⟩; have hw3 := hw2.symm; subst hw3; clear hw2) | (go_at_call 49; (with_reducible refine hrc.mono ?_); rintro e w4 ⟨A4, c4, rfl, hr4, hS4⟩) | (go_at_call 13; (with_reducible refine (HBK.out _ A4 c4 (RdG.on hr4 ((Since.refl w4).alloc _))).mono ?_); rintro e w5 ⟨A9, c9, rfl, hO9, hS9⟩; have hU5 := (two_new w4 w4.heap.size rfl (.string s) (.slice A4 m c4) 41).since hS9; obtain ⟨u1, u2, u3, u4, u5⟩ := id hU5; have hS45 : Since w4 w5 := ((Since.refl w4).alloc _).trans hS9; have HO9 := Lib.hid hO9; clear hO9) | (go_at_call 50; (with_reducible refine (HSM.out _ A9 c9 (own_rdw (own_setlow HO9.out (by simp) _ _))).mono ?_); rintro e w6 ⟨rfl, hw6⟩; have hw7 := hw6.symm; subst hw7; clear hw6))
        refine wp_named fun w6 hw6 => ?_
        have hwl4 : w.heap.size ≤ w4.heap.size := (hSQ.trans hS4).below.size
        have hS46 : Since w4 w6 := by subst hw6; exact hS45.setCell (p := ⟨w4.heap.size, 1, none⟩) (Nat.le_refl _) _
        have hR6 : OwnB w6 w.heap.size (.slice A9 m c9) BD := by subst hw6; exact OwnG.low (own_setlow HO9.out (by simp) _ _) (by simp; omega)
        have t1 : w6.cell? ⟨w4.heap.size, 0, none⟩ = some (.string s) := by subst hw6; rw [cell_set, if_neg (by omega)]; exact u1
        have t2 : w6.cell? ⟨w4.heap.size, 1, none⟩ = some (.slice A9 m c9) := by subst hw6; rw [cell_set, if_pos ⟨rfl, rfl⟩, u2]; rfl
        have hS6 : Since wr w6 := hS4.trans hS46
        have hz6 : w.heap.size ≤ w6.heap.size := (hSQ.trans hS6).below.size
        have hO6 := HO.out.since hS6
        clear hw6 u1 u2 u3 u4 u5 hU5 hS45 hS46 hS4 hr4 HO9
        go_wp2_with (at_builtin; refine wpList_append_tb rfl _ _ rfl w.heap.size _ TI (by rfl) hO6 _ 1 s A9 m c9 BD (by rfl) _ rfl hR6 htl.out hz6 ?_; intro v7 w7 hO7 hg7 hb7; have hS7 : Since w w7 := since_grown ((hSQ.trans hS6).alloc _) hg7 (fun k hk => (hb7 k hk).1))
        go_roundw
        case measure => simp [intOf]; omega
        case rel => first | exact ⟨i + 1, by omega, by first | rfl | go_num | simp, by rw [HTK.out]; exact hO7, hS7⟩ | ((repeat apply Exists.intro); refine ⟨?_, rfl⟩; exact ⟨i + 1, by omega, by first | rfl | go_num | simp, by rw [HTK.out]; exact hO7, hS7⟩)
      · obtain ⟨k, hik⟩ : ∃ k, i = k + 1 := ⟨i - 1, by omega⟩
        have hkL : k < TT.length := by rw [← HN.out]; omega
        obtain ⟨q, cq, rfl, hq⟩ := tb_last hO (HLST.out k hik hkL)
        rw [HTIL.out] at HO ⊢
        have hlt := HORI.out k hik TT[k] (List.getElem?_eq_getElem hkL)
        have htri := less_tri (TT[k]).tag.toList s.toList
        replace hlt : Op.bytesLess (TT[k]).tag.toList s.toList = true := hlt
        rw [hlt] at htri
        replace hq : wr.cell? ⟨q, k * 2, none⟩ = some (.string (TT[k]).tag) := hq
        generalize (TT[k]).tag = u at *
        have t1 : Op.bytesLess s.toList u.toList = false := by
          cases hx : Op.bytesLess s.toList u.toList
          · rfl
          · rw [hx] at htri; simp at htri
        have t2 : (s.toList == u.toList) = false := by
          rw [t1] at htri
          simpa using htri.symm
        have m8 : IntKind.i64.wrap ((i : Int) - 1) = (k : Int) := by rw [IntKind.wrap_i64]; omega
        have m9 : (0 : Int) < (i : Int) := by omega
        have m10 : (k : Int) < (i : Int) := by omega
        clear hO hlt htri hkL hi0 HLST HORI hik
        go_upto_region 29 with (first | (go_at_call 48; (with_reducible refine (HTG.out _).mono ?_); rintro e w2 ⟨rfl, hw2⟩; have hw3 := hw2.symm; subst hw3; clear hw2) | (go_at_call 49; (with_reducible refine hrc.mono ?_); rintro e w4 ⟨A4, c4, rfl, hr4, hS4⟩) | (go_at_call 13; (with_reducible refine (HBK.out _ A4 c4 (RdG.on hr4 ((Since.refl w4).alloc _))).mono ?_); rintro e w5 ⟨A9, c9, rfl, hO9, hS9⟩; have hU5 := (two_new w4 w4.heap.size rfl (.string s) (.slice A4 m c4) 41).since hS9; obtain ⟨u1, u2, u3, u4, u5⟩ := id hU5; have hS45 : Since w4 w5 := ((Since.refl w4).alloc _).trans hS9; have HO9 := Lib.hid hO9; clear hO9) | (go_at_call 50; (with_reducible refine (HSM.out _ A9 c9 (own_rdw (own_setlow HO9.out (by simp) _ _))).mono ?_); rintro e w6 ⟨rfl, hw6⟩; have hw7 := hw6.symm; subst hw7; clear hw6))
        refine wp_named fun w6 hw6 => ?_
        have hwl4 : w.heap.size ≤ w4.heap.size := (hSQ.trans hS4).below.size
        have hS46 : Since w4 w6 := by subst hw6; exact hS45.setCell (p := ⟨w4.heap.size, 1, none⟩) (Nat.le_refl _) _
        have hR6 : OwnB w6 w.heap.size (.slice A9 m c9) BD := by subst hw6; exact OwnG.low (own_setlow HO9.out (by simp) _ _) (by simp; omega)
        have t3 : w6.cell? ⟨w4.heap.size, 0, none⟩ = some (.string s) := by subst hw6; rw [cell_set, if_neg (by omega)]; exact u1
        have t4 : w6.cell? ⟨w4.heap.size, 1, none⟩ = some (.slice A9 m c9) := by subst hw6; rw [cell_set, if_pos ⟨rfl, rfl⟩, u2]; rfl
        have hS6 : Since wr w6 := hS4.trans hS46
        have hz6 : w.heap.size ≤ w6.heap.size := (hSQ.trans hS6).below.size
        have hO6 := HO.out.since hS6
        clear hw6 u1 u2 u3 u4 u5 hU5 hS45 hS46 hS4 hr4 HO9
        go_wp2_with (at_builtin; refine wpList_append_tb rfl _ _ rfl w.heap.size _ TI (by rfl) hO6 _ 1 s A9 m c9 BD (by rfl) _ rfl hR6 htl.out hz6 ?_; intro v7 w7 hO7 hg7 hb7; have hS7 : Since w w7 := since_grown ((hSQ.trans hS6).alloc _) hg7 (fun k hk => (hb7 k hk).1))
        go_roundw
        case measure => simp [intOf]; omega
        case rel => first | exact ⟨i + 1, by omega, by first | rfl | go_num | simp, by rw [HTK.out]; exact hO7, hS7⟩ | ((repeat apply Exists.intro); refine ⟨?_, rfl⟩; exact ⟨i + 1, by omega, by first | rfl | go_num | simp, by rw [HTK.out]; exact hO7, hS7⟩)
    · obtain rfl : N = i := by omega
      have hiN' : ¬ (N : Int) < (N : Int) := by omega
      have e : (TT.map blankT).take N = TT.map blankT := by rw [HN.out, ← List.length_map (f := blankT)]; exact List.take_length
      rw [e] at hO
      obtain ⟨A9, c9, rfl, _, _⟩ := hO.rd
      have HOO := Lib.hid hO
      rw [List.length_map, ← HN.out]
      clear hO e
      go_wp2_with fail
      go_ret2
      exact ⟨A9, c9, by (first | rfl | (simp only [HN.out]; rfl)), by have := HOO.out; rw [List.length_map] at this; exact this, hS⟩
end Go.Proofs.YteckkcpnfeoehaaDoor

/-
  Layer 9: what stands in a font's file of the tables that are not made anew (no walk).
-/
namespace Go.Proofs.YteckkcpnfeoehaaDoor
set_option maxRecDepth 100000
open Go.RowKit Go.ChangeShapes Go.WideShapes Go.Deep
set_option linter.unusedVariables false
set_option linter.unusedSimpArgs false

theorem less_irr (x : List UInt8) : Op.bytesLess x x = false := by
  rw [bytesLess_eq]
  simp only [decide_eq_false_iff_not]
  exact List.lt_irrefl x
theorem less_tr {x y z : List UInt8} (h : Op.bytesLess x y = true) (k : Op.bytesLess y z = true) : Op.bytesLess x z = true := by
  rw [bytesLess_eq, decide_eq_true_iff] at *
  exact List.lt_trans h k
theorem sorted_lt {TT : List Tb} (h : right4 TT) : ∀ (k i : Nat) (T U : Tb), TT[i]? = some T → TT[i + k + 1]? = some U → Op.bytesLess T.tag.toList U.tag.toList = true := by
  intro k
  induction k with
  | zero => intro i T U hT hU; exact h.2.2.2.2 i T U hT hU
  | succ k ih =>
    intro i T U hT hU
    have hl : i + k + 1 < TT.length := by
      rcases Nat.lt_or_ge (i + (k + 1) + 1) TT.length with h | h
      · omega
      · rw [List.getElem?_eq_none h] at hU; cases hU
    have hV := List.getElem?_eq_getElem hl
    exact less_tr (ih i T _ hT hV) (h.2.2.2.2 (i + k + 1) _ U hV (by rw [← hU]; congr 1))
theorem tag_once {TT : List Tb} (h : right4 TT) {i j : Nat} {T U : Tb} (hi : TT[i]? = some T) (hj : TT[j]? = some U) (he : eqT T.tag U = true) : T = U := by
  have he' : U.tag.toList = T.tag.toList := by unfold eqT at he; simpa using he
  rcases Nat.lt_trichotomy i j with h1 | h1 | h1
  · have := sorted_lt h (j - i - 1) i T U hi (by rw [show i + (j - i - 1) + 1 = j by omega]; exact hj)
    rw [he', less_irr] at this; cases this
  · subst h1
    rw [hi] at hj
    exact Option.some.inj hj
  · have := sorted_lt h (i - j - 1) j U T hj (by rw [show j + (i - j - 1) + 1 = i by omega]; exact hi)
    rw [he', less_irr] at this; cases this
theorem mem_keep {TT : List Tb} {T U : Tb} (h : T ∈ TT) (hne : eqT U.tag T = false) : T ∈ withT TT U := by
  rcases with_split TT U with ⟨a, V, b, e, e2, h1, _⟩ | ⟨a, b, e, e2, _⟩
  · rw [e] at h
    rw [e2]
    rcases List.mem_append.1 h with h | h
    · exact List.mem_append_left _ h
    · rcases List.mem_cons.1 h with rfl | h
      · rw [hne] at h1; cases h1
      · exact List.mem_append_right _ (List.mem_cons_of_mem _ h)
  · rw [e] at h
    rw [e2]
    rcases List.mem_append.1 h with h | h
    · exact List.mem_append_left _ h
    · exact List.mem_append_right _ (List.mem_cons_of_mem _ h)
theorem with_new {TT : List Tb} {T : Tb} (h : has9 TT T.tag = false) : (withT TT T).length = TT.length + 1 := by
  rcases with_split TT T with ⟨a, U, b, e, e2, h1, _⟩ | ⟨a, b, e, e2, _⟩
  · exfalso
    unfold has9 at h
    have := List.any_eq_false.1 h U (by rw [e]; simp)
    rw [h1] at this; simp at this
  · rw [e2, e]; simp; omega
theorem syT_has {F : Fn9} (h : three9 F.TT = true) (s : ByteArray) : has9 (syT F) s = has9 F.TT s ∧ (syT F).length = F.TT.length ∧ sumT (syT F) = sumT F.TT := by
  unfold three9 at h
  rw [Bool.and_eq_true, Bool.and_eq_true] at h
  obtain ⟨⟨h0, h1⟩, h2⟩ := h
  have key : ∀ (TT : List Tb) (T : Tb) (s : ByteArray), has9 TT T.tag = true → has9 (withT TT T) s = has9 TT s := fun TT T s hh => by
    rw [has_with]
    cases hs : eqT s T
    · simp
    · have : has9 TT s = true := by
        have e : ∀ V, eqT s V = eqT T.tag V := fun V => eqT_of hs
        unfold has9 at hh ⊢
        rw [← hh]
        congr 1
        funext V
        exact e V
      rw [this]; rfl
  have a1 : has9 F.TT (⟨tgHead, phB (dat9 F.TT tgHead) (syH F)⟩ : Tb).tag = true := h0
  have a2 : has9 (withT F.TT ⟨tgHead, phB (dat9 F.TT tgHead) (syH F)⟩) (⟨tgMaxp, mpB (dat9 F.TT tgMaxp) (syM F)⟩ : Tb).tag = true := by rw [key _ _ _ a1]; exact h1
  have a3 : has9 (withT (withT F.TT ⟨tgHead, phB (dat9 F.TT tgHead) (syH F)⟩) ⟨tgMaxp, mpB (dat9 F.TT tgMaxp) (syM F)⟩) (⟨tgHhea, pcB (dat9 F.TT tgHhea) F.ct⟩ : Tb).tag = true := by rw [key _ _ _ a2, key _ _ _ a1]; exact h2
  refine ⟨?_, ?_, ?_⟩
  · show has9 (withT (withT (withT F.TT _) _) _) s = _
    rw [key _ _ _ a3, key _ _ _ a2, key _ _ _ a1]
  · show (withT (withT (withT F.TT _) _) _).length = _
    rw [with_len a3, with_len a2, with_len a1]
  · show sumT (withT (withT (withT F.TT _) _) _) = _
    rw [with_sum a3, with_sum a2, with_sum a1]
    · exact phB_len _ _
    · rw [dat_with_ne _ (show eqT tgMaxp ⟨tgHead, _⟩ = false from ne_HeadMaxp)]; exact mpB_len _ _
    · rw [dat_with_ne _ (show eqT tgHhea ⟨tgMaxp, _⟩ = false from ne_MaxpHhea), dat_with_ne _ (show eqT tgHhea ⟨tgHead, _⟩ = false from ne_HeadHhea)]; exact pcB_len _ _
theorem syT_mem {F : Fn9} {T : Tb} (h : T ∈ syT F) : T = ⟨tgHhea, pcB (dat9 F.TT tgHhea) F.ct⟩ ∨ T = ⟨tgMaxp, mpB (dat9 F.TT tgMaxp) (syM F)⟩ ∨ T = ⟨tgHead, phB (dat9 F.TT tgHead) (syH F)⟩ ∨ T ∈ F.TT := by
  rcases mem_with h with h | h
  · exact .inl h
  · rcases mem_with h with h | h
    · exact .inr (.inl h)
    · rcases mem_with h with h | h
      · exact .inr (.inr (.inl h))
      · exact .inr (.inr (.inr h))
theorem sync_nogr {F : Fn9} (hG : NoGr F) (h : three9 F.TT = true) : NoGr (syF F) := by
  have hd := fun s => dat_len (s := s) (fun T hT => (hG.dats T hT).1)
  obtain ⟨_, k2, k3⟩ := syT_has h tgHead
  refine ⟨by show (syT F).length ≤ 101; rw [k2]; exact hG.tabs, fun T hT => ?_, by show sumT (syT F) ≤ 100000; rw [k3]; exact hG.sumT, hG.glys, hG.gly, hG.sumG, hG.mets⟩
  rcases syT_mem hT with rfl | rfl | rfl | hT
  · exact ⟨by rw [pcB_len]; exact hd _, by show tgHhea.size ≤ 100; decide⟩
  · exact ⟨by rw [mpB_len]; exact hd _, by show tgMaxp.size ≤ 100; decide⟩
  · exact ⟨by rw [phB_len]; exact hd _, by show tgHead.size ≤ 100; decide⟩
  · exact hG.dats T hT
theorem phF_bytes {f : Nat → Int} {n : Nat} (hf : ∀ j, j < n → 0 ≤ f j ∧ f j ≤ 255) (em a b c d : Int) (l : Bool) : ∀ j, j < n → 0 ≤ phF f em a b c d l j ∧ phF f em a b c d l j ≤ 255 := by
  unfold phF
  exact lay2_range (lay2_range (lay2_range (lay2_range (lay2_range (lay2_range hf)))))
theorem mpF_bytes {f v : Nat → Int} {n : Nat} (hf : ∀ j, j < n → 0 ≤ f j ∧ f j ≤ 255) : ∀ k, ∀ j, j < n → 0 ≤ mpF f v k j ∧ mpF f v k j ≤ 255
  | 0 => hf
  | k + 1 => lay2_range (mpF_bytes hf k)
theorem sync_num {F : Fn9} (hW : FnW F) (hg : F.GG.length ≤ 1100) : FnW (syF F) := by
  have hd : ∀ s, Bytes (dat9 F.TT s) := dat9_cases (P := Bytes) (fun v hv => by cases hv) hW.tabs
  refine ⟨fun T hT => ?_, hW.glys, hW.mets, hW.ct, hW.hd, ⟨by show In64 ((F.GG.length : Nat) : Int); unfold In64; omega, hW.mx.2⟩⟩
  rcases syT_mem hT with rfl | rfl | rfl | hT
  · exact bytes_map (lay2_range (bytes_fn (hd tgHhea)))
  · exact bytes_map (mpF_bytes (bytes_fn (hd tgMaxp)) 7)
  · exact bytes_map (phF_bytes (bytes_fn (hd tgHead)) _ _ _ _ _ _)
  · exact hW.tabs T hT
/-- What a right font's file tells of its tables. -/
theorem all9_len {F : Fn9} (h : made9 F.TT = false) : (all9 F).length = F.TT.length + 3 := by
  have hno : ∀ s, s = tgLoca ∨ s = tgGlyf ∨ s = tgHmtx → has9 F.TT s = false := fun s hs => by
    unfold has9
    rw [List.any_eq_false]
    intro T hT
    unfold made9 at h
    have := List.any_eq_false.1 h T hT
    simp only [Bool.or_eq_true, not_or] at this
    rcases hs with rfl | rfl | rfl
    · simpa using this.1.1
    · simpa using this.1.2
    · simpa using this.2
  unfold all9
  rw [with_new, with_new, with_new]
  · exact hno tgLoca (.inl rfl)
  · rw [has_with, show eqT tgGlyf ⟨tgLoca, locB F⟩ = false from ne_GlyfLoca, Bool.or_false]; exact hno tgGlyf (.inr (.inl rfl))
  · rw [has_with, has_with, show eqT tgHmtx ⟨tgGlyf, F.GG.flatten⟩ = false from ne_HmtxGlyf, show eqT tgHmtx ⟨tgLoca, locB F⟩ = false from ne_HmtxLoca, Bool.or_false, Bool.or_false]; exact hno tgHmtx (.inr (.inr rfl))
theorem pass_at {F : Fn9} (hr : right9 (syF F)) {T : Tb} (hT : T ∈ F.TT) (h0 : (T.tag.toList == tgHead.toList) = false) (h1 : (T.tag.toList == tgMaxp.toList) = false) (h2 : (T.tag.toList == tgHhea.toList) = false) :
    ∃ k : Nat, ixF (eqT T.tag) 0 ((all9 (syF F)).map blankT) = (k : Int) ∧ ((all9 (syF F)).map blankT)[k]? = some T := by
  have hs : T ∈ syT F := by
    refine mem_keep (mem_keep (mem_keep hT ?_) ?_) ?_
    · exact h0
    · exact h1
    · exact h2
  have hmd := hr.1.2.1
  have hg : (eqT tgLoca T || eqT tgGlyf T || eqT tgHmtx T) = false := Bool.eq_false_iff.2 (List.any_eq_false.1 hmd T hs)
  rw [Bool.or_eq_false_iff, Bool.or_eq_false_iff] at hg
  have ha : T ∈ all9 (syF F) := mem_keep (mem_keep (mem_keep hs hg.1.1) hg.1.2) hg.2
  have hb : blankT T = T := by
    obtain ⟨s, L⟩ := T
    exact blank_else (by have e : tgHead.toList = [104, 101, 97, 100] := by kernel_rfl
                         rw [← e]; exact h0)
  obtain ⟨i, hi⟩ := List.getElem?_of_mem ha
  have hm : ((all9 (syF F)).map blankT)[i]? = some T := by rw [List.getElem?_map, hi]; show some (blankT T) = some T; rw [hb]
  have hr4 := map_right hr.2.2
  rcases ixF_cases (eqT T.tag) ((all9 (syF F)).map blankT) 0 with ⟨_, hA⟩ | ⟨k, U, e1, e2, e3, _⟩
  · have := hA T (List.mem_of_getElem? hm)
    unfold eqT at this
    simp at this
  · rw [Nat.zero_add] at e1
    have := tag_once hr4 hm e2 e3
    exact ⟨k, e1, by rw [this]; exact e2⟩
end Go.Proofs.YteckkcpnfeoehaaDoor
