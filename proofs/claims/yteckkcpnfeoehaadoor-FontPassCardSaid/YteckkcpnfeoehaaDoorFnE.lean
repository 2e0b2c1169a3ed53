/-
  Layer 9: agrees; which tables are made; all glyphs' bytes put together.
-/
import Derived.Test.YteckkcpnfeoehaaDoorFnD
import Derived.Test.YteckkcpnfeoehaaDoorJn
namespace Go.Proofs.YteckkcpnfeoehaaDoor
set_option maxRecDepth 100000
open Go.RowKit Go.ChangeShapes Go.WideShapes Go.Deep
set_option linter.unusedVariables false
set_option linter.unusedSimpArgs false

theorem tgLoca_l : tgLoca.toList = [108, 111, 99, 97] := by kernel_rfl
theorem tgGlyf_l : tgGlyf.toList = [103, 108, 121, 102] := by kernel_rfl
theorem tgHmtx_l : tgHmtx.toList = [104, 109, 116, 120] := by kernel_rfl
theorem tgGvar_l : tgGvar.toList = [103, 118, 97, 114] := by kernel_rfl
def isGen (T : Tb) : Bool := eqT tgLoca T || eqT tgGlyf T || eqT tgHmtx T
def isVar (T : Tb) : Bool := eqT tgGvar T
set_option maxHeartbeats 8000000 in
theorem cl_gen (T : Tb) (v : Value) (w : World) :
    Calls Tryd.prog 26 (#[.agg #[.string T.tag, v]] ++ #[]) w fun e w' => e = .returned (.bool (isGen T)) ∧ Since w w' := by
  show Calls Tryd.prog 26 #[.agg #[.string T.tag, v]] w fun e w' => e = .returned (.bool (isGen T)) ∧ Since w w'
  obtain ⟨s, L⟩ := T
  have E := Lib.hid (show isGen ⟨s, L⟩ = (s.toList == [108, 111, 99, 97] || s.toList == [103, 108, 121, 102] || s.toList == [104, 109, 116, 120]) from by unfold isGen eqT; rw [tgLoca_l, tgGlyf_l, tgHmtx_l])
  simp only
  by_cases h1 : s.toList = [108, 111, 99, 97]
  · have d1 : (s.toList == [108, 111, 99, 97]) = true := by simpa using h1
    go_enter Tryd.func26, Tryd.ntmps26
    go_wp2_with fail
    go_ret
    rw [E.out]
    exact ⟨by first | rfl | simp [h1], by (repeat (first | with_reducible (exact Since.refl _) | with_reducible assumption | with_reducible (refine Since.drew ?_) | with_reducible (refine Since.drewN ?_ _) | with_reducible (refine Since.alloc ?_ _) | (with_reducible (refine Since.setCell ?_ ?_ _); rotate_left; focus (first | (simp; done) | (simp; omega) | omega)) | (with_reducible (refine Since.trans ?_ (by with_reducible assumption)))))⟩
  · have d1 : (s.toList == [108, 111, 99, 97]) = false := by simpa using h1
    by_cases h2 : s.toList = [103, 108, 121, 102]
    · have d2 : (s.toList == [103, 108, 121, 102]) = true := by simpa using h2
      go_enter Tryd.func26, Tryd.ntmps26
      go_wp2_with fail
      go_ret
      rw [E.out]
      exact ⟨by first | rfl | simp [h2], by (repeat (first | with_reducible (exact Since.refl _) | with_reducible assumption | with_reducible (refine Since.drew ?_) | with_reducible (refine Since.drewN ?_ _) | with_reducible (refine Since.alloc ?_ _) | (with_reducible (refine Since.setCell ?_ ?_ _); rotate_left; focus (first | (simp; done) | (simp; omega) | omega)) | (with_reducible (refine Since.trans ?_ (by with_reducible assumption)))))⟩
    · have d2 : (s.toList == [103, 108, 121, 102]) = false := by simpa using h2
      by_cases h3 : s.toList = [104, 109, 116, 120]
      · have d3 : (s.toList == [104, 109, 116, 120]) = true := by simpa using h3
        go_enter Tryd.func26, Tryd.ntmps26
        go_wp2_with fail
        go_ret
        rw [E.out]
        exact ⟨by first | rfl | simp [h3], by (repeat (first | with_reducible (exact Since.refl _) | with_reducible assumption | with_reducible (refine Since.drew ?_) | with_reducible (refine Since.drewN ?_ _) | with_reducible (refine Since.alloc ?_ _) | (with_reducible (refine Since.setCell ?_ ?_ _); rotate_left; focus (first | (simp; done) | (simp; omega) | omega)) | (with_reducible (refine Since.trans ?_ (by with_reducible assumption)))))⟩
      · have d3 : (s.toList == [104, 109, 116, 120]) = false := by simpa using h3
        go_enter Tryd.func26, Tryd.ntmps26
        go_wp2_with fail
        go_ret
        rw [E.out]
        exact ⟨by first | rfl | simp [h1, h2, h3], by (repeat (first | with_reducible (exact Since.refl _) | with_reducible assumption | with_reducible (refine Since.drew ?_) | with_reducible (refine Since.drewN ?_ _) | with_reducible (refine Since.alloc ?_ _) | (with_reducible (refine Since.setCell ?_ ?_ _); rotate_left; focus (first | (simp; done) | (simp; omega) | omega)) | (with_reducible (refine Since.trans ?_ (by with_reducible assumption)))))⟩
set_option maxHeartbeats 8000000 in
theorem cl_var (T : Tb) (v : Value) (w : World) :
    Calls Tryd.prog 27 (#[.agg #[.string T.tag, v]] ++ #[]) w fun e w' => e = .returned (.bool (isVar T)) ∧ Since w w' := by
  show Calls Tryd.prog 27 #[.agg #[.string T.tag, v]] w fun e w' => e = .returned (.bool (isVar T)) ∧ Since w w'
  obtain ⟨s, L⟩ := T
  have E := Lib.hid (show isVar ⟨s, L⟩ = (s.toList == [103, 118, 97, 114]) from by unfold isVar eqT; rw [tgGvar_l])
  simp only
  by_cases h1 : s.toList = [103, 118, 97, 114]
  · have d1 : (s.toList == [103, 118, 97, 114]) = true := by simpa using h1
    go_enter Tryd.func27, Tryd.ntmps27
    go_wp2_with fail
    go_ret
    rw [E.out]
    exact ⟨by first | rfl | simp [h1], by (repeat (first | with_reducible (exact Since.refl _) | with_reducible assumption | with_reducible (refine Since.drew ?_) | with_reducible (refine Since.drewN ?_ _) | with_reducible (refine Since.alloc ?_ _) | (with_reducible (refine Since.setCell ?_ ?_ _); rotate_left; focus (first | (simp; done) | (simp; omega) | omega)) | (with_reducible (refine Since.trans ?_ (by with_reducible assumption)))))⟩
  · have d1 : (s.toList == [103, 118, 97, 114]) = false := by simpa using h1
    go_enter Tryd.func27, Tryd.ntmps27
    go_wp2_with fail
    go_ret
    rw [E.out]
    exact ⟨by first | rfl | simp [h1], by (repeat (first | with_reducible (exact Since.refl _) | with_reducible assumption | with_reducible (refine Since.drew ?_) | with_reducible (refine Since.drewN ?_ _) | with_reducible (refine Since.alloc ?_ _) | (with_reducible (refine Since.setCell ?_ ?_ _); rotate_left; focus (first | (simp; done) | (simp; omega) | omega)) | (with_reducible (refine Since.trans ?_ (by with_reducible assumption)))))⟩

theorem enters_gen : ∀ args w, (callFunc 26 args).run Tryd.prog w = .ok (.enter 26 args) w := enters_of Tryd.func26 (by kernel_rfl) rfl
set_option maxHeartbeats 8000000 in
theorem fn_any_gen (A : Option Addr) (n c : Nat) (TT : List Tb) (w : World) (h : RdTL w w.heap.size A TT) (hL : n = TT.length) (hn : n ≤ maxLen) :
    Calls Tryd.prog 25 #[.slice A n c, .func (.func 26) #[] #[]] w fun e w' => e = .returned (.bool (TT.any isGen)) ∧ Since w w' := by
  have HI := Lib.hid (sf_index 26 #[] isGen A n c TT w h hL hn enters_gen (fun T v w1 _ _ => cl_gen T v w1))
  rcases ixF_cases isGen TT 0 with ⟨h1, h2⟩ | ⟨j, T, h1, h2, h3, _⟩
  · have E := Lib.hid (show TT.any isGen = false by rw [List.any_eq_false]; intro T hT; rw [h2 T hT]; simp)
    rw [h1] at HI
    clear h hL h1 h2
    go_enter Tryd.func25, Tryd.ntmps25
    go_wp2_with (go_at_call 62; (with_reducible refine HI.out.mono ?_); rintro e w2 ⟨rfl, hS2⟩)
    go_ret
    rw [E.out]
    exact ⟨rfl, hS2⟩
  · have E := Lib.hid (show TT.any isGen = true by rw [List.any_eq_true]; exact ⟨T, List.mem_of_getElem? h2, h3⟩)
    rw [h1, Nat.zero_add] at HI
    have hj : (0 : Int) ≤ (j : Int) := by omega
    clear h hL h1 h2 h3
    go_enter Tryd.func25, Tryd.ntmps25
    go_wp2_with (go_at_call 62; (with_reducible refine HI.out.mono ?_); rintro e w2 ⟨rfl, hS2⟩)
    go_ret
    rw [E.out]
    exact ⟨by first | rfl | simp, hS2⟩

theorem enters_var : ∀ args w, (callFunc 27 args).run Tryd.prog w = .ok (.enter 27 args) w := enters_of Tryd.func27 (by kernel_rfl) rfl
set_option maxHeartbeats 8000000 in
theorem fn_any_var (A : Option Addr) (n c : Nat) (TT : List Tb) (w : World) (h : RdTL w w.heap.size A TT) (hL : n = TT.length) (hn : n ≤ maxLen) :
    Calls Tryd.prog 25 #[.slice A n c, .func (.func 27) #[] #[]] w fun e w' => e = .returned (.bool (TT.any isVar)) ∧ Since w w' := by
  have HI := Lib.hid (sf_index 27 #[] isVar A n c TT w h hL hn enters_var (fun T v w1 _ _ => cl_var T v w1))
  rcases ixF_cases isVar TT 0 with ⟨h1, h2⟩ | ⟨j, T, h1, h2, h3, _⟩
  · have E := Lib.hid (show TT.any isVar = false by rw [List.any_eq_false]; intro T hT; rw [h2 T hT]; simp)
    rw [h1] at HI
    clear h hL h1 h2
    go_enter Tryd.func25, Tryd.ntmps25
    go_wp2_with (go_at_call 62; (with_reducible refine HI.out.mono ?_); rintro e w2 ⟨rfl, hS2⟩)
    go_ret
    rw [E.out]
    exact ⟨rfl, hS2⟩
  · have E := Lib.hid (show TT.any isVar = true by rw [List.any_eq_true]; exact ⟨T, List.mem_of_getElem? h2, h3⟩)
    rw [h1, Nat.zero_add] at HI
    have hj : (0 : Int) ≤ (j : Int) := by omega
    clear h hL h1 h2 h3
    go_enter Tryd.func25, Tryd.ntmps25
    go_wp2_with (go_at_call 62; (with_reducible refine HI.out.mono ?_); rintro e w2 ⟨rfl, hS2⟩)
    go_ret
    rw [E.out]
    exact ⟨by first | rfl | simp, hS2⟩

theorem made9_is (TT : List Tb) : TT.any isGen = made9 TT := rfl
theorem gvar_is (TT : List Tb) : TT.any isVar = has9 TT tgGvar := rfl
theorem eq_hd9 (w : World) (H K : Hd9) : (Op.equalIn 10000 24 (.agg (hdC H).toArray) (.agg (hdC K).toArray)).run Tryd.prog w = .ok (decide (H = K)) w := by
  obtain ⟨a, b, c, d, e, l⟩ := H
  obtain ⟨a', b', c', d', e', l'⟩ := K
  unfold hdC
  rw [run_equalIn_struct w 9999 24 _ _ (by kernel_rfl) (by kernel_rfl)]
  have heq : ∀ (d : Nat) (a b : Int) (w : World), (Op.equalIn (d + 1) 3 (.int .i64 a) (.int .i64 b)).run Tryd.prog w = .ok (a == b) w := fun d a b w => run_equalIn_int w d _ _ _ a b Tryd.underlying3
  have heqb : ∀ (d : Nat) (a b : Bool) (w : World), (Op.equalIn (d + 1) 4 (.bool a) (.bool b)).run Tryd.prog w = .ok (a == b) w := fun d a b w => by simp [Op.equalIn, run_underlying Tryd.underlying4]
  have hc : Tryd.prog.cellsOf 3 = 1 := by kernel_rfl
  have hcb : Tryd.prog.cellsOf 4 = 1 := by kernel_rfl
  simp only [Program.fieldsOf, Tryd.underlying24]
  by_cases h0 : a = a'
  · by_cases h1 : b = b'
    · by_cases h2 : c = c'
      · by_cases h3 : d = d'
        · by_cases h4 : e = e'
          · by_cases h5 : l = l'
            · simp [go_sem, h0, h1, h2, h3, h4, h5]
            · simp [go_sem, h0, h1, h2, h3, h4, h5]
          · simp [go_sem, h0, h1, h2, h3, h4]
        · simp [go_sem, h0, h1, h2, h3]
      · simp [go_sem, h0, h1, h2]
    · simp [go_sem, h0, h1]
  · simp [go_sem, h0]
theorem eq_mx9 (w : World) (H K : Mx9) : (Op.equalIn 10000 26 (.agg (mxC H).toArray) (.agg (mxC K).toArray)).run Tryd.prog w = .ok (decide (H = K)) w := by
  obtain ⟨a, b, c, d, e, f, g⟩ := H
  obtain ⟨a', b', c', d', e', f', g'⟩ := K
  unfold mxC
  rw [run_equalIn_struct w 9999 26 _ _ (by kernel_rfl) (by kernel_rfl)]
  have heq : ∀ (d : Nat) (a b : Int) (w : World), (Op.equalIn (d + 1) 3 (.int .i64 a) (.int .i64 b)).run Tryd.prog w = .ok (a == b) w := fun d a b w => run_equalIn_int w d _ _ _ a b Tryd.underlying3
  have hc : Tryd.prog.cellsOf 3 = 1 := by kernel_rfl
  simp only [Program.fieldsOf, Tryd.underlying26]
  by_cases h0 : a = a'
  · by_cases h1 : b = b'
    · by_cases h2 : c = c'
      · by_cases h3 : d = d'
        · by_cases h4 : e = e'
          · by_cases h5 : f = f'
            · by_cases h6 : g = g'
              · simp [go_sem, h0, h1, h2, h3, h4, h5, h6]
              · simp [go_sem, h0, h1, h2, h3, h4, h5, h6]
            · simp [go_sem, h0, h1, h2, h3, h4, h5]
          · simp [go_sem, h0, h1, h2, h3, h4]
        · simp [go_sem, h0, h1, h2, h3]
      · simp [go_sem, h0, h1, h2]
    · simp [go_sem, h0, h1]
  · simp [go_sem, h0]
/-- All glyphs' bytes. -/
def u8L (L : List Int) : List UInt8 := L.map (fun x => UInt8.ofNat x.toNat)
theorem u8L_len (L : List Int) : (u8L L).length = L.length := by unfold u8L; simp
theorem u8_back {x : Int} (h : 0 ≤ x ∧ x ≤ 255) : ((UInt8.ofNat x.toNat).toNat : Int) = x := by
  have e : (UInt8.ofNat x.toNat).toNat = x.toNat % 2 ^ 8 := UInt8.toNat_ofNat'
  rw [e]; omega
theorem join_flat : ∀ ls : List (List UInt8), Lib.join ls [] = ls.flatten
  | [] => rfl
  | x :: r => by
    rw [Lib.join_cons, List.flatten_cons]
    unfold Lib.joinTail
    congr 1
    simp
theorem lens_sum (GG : List (List Int)) : Lib.lens (GG.map u8L) = sumB GG := by
  unfold Lib.lens sumB
  rw [List.map_map]
  congr 1
  exact List.map_congr_left fun L _ => u8L_len L
theorem flat_len (GG : List (List Int)) : GG.flatten.length = sumB GG := by unfold sumB; rw [List.length_flatten]
theorem u8_flat (GG : List (List Int)) : (GG.map u8L).flatten = u8L GG.flatten := by
  unfold u8L
  rw [List.map_flatten]
theorem fresh_rdb {B : Nat} {w : World} {v : Value} {L : List Int} (h : Lib.FreshBytes B w v (u8L L)) (hb : Bytes L) : ∃ A c, v = .slice A L.length c ∧ RdB w w.heap.size A L := by
  obtain ⟨g, cap, zs, rfl, _, hl, _, hz, hzr, hzb, hc, _⟩ := h
  rw [u8L_len] at hl hzb ⊢
  refine ⟨_, _, rfl, fun hn => ⟨g, 0, rfl, ?_, fun j s hj i hi => ?_⟩⟩
  · have := hc 0 (by omega)
    exact World.block_lt_of_cell? w _ this
  · obtain rfl : i = 0 := by omega
    have hjl : j < L.length := by
      rcases Nat.lt_or_ge j L.length with h | h
      · exact h
      · rw [List.getElem?_eq_none h] at hj; cases hj
    have h1 := hc j (by omega)
    rw [Nat.mul_one, Nat.zero_add, Nat.add_zero, h1]
    have hjz : j < zs.length := by omega
    have e1 : (Lib.bytesOf (zs.take L.length))[j]? = some (UInt8.ofNat zs[j].toNat) := by
      unfold Lib.bytesOf
      rw [List.getElem?_map, List.getElem?_take_of_lt hjl, List.getElem?_eq_getElem hjz]; rfl
    have e2 : (u8L L)[j]? = some (UInt8.ofNat s.toNat) := by unfold u8L; rw [List.getElem?_map, hj]; rfl
    rw [hzb, e2] at e1
    injection e1 with e1
    have r1 := hzr _ (List.getElem_mem hjz)
    have r2 := hb s (List.mem_of_getElem? hj)
    have t1 := u8_back (x := zs[j]) ⟨r1.1, by omega⟩
    have t2 := u8_back (x := s) r2
    rw [← e1, t2] at t1
    simp only [byL, List.getD_cons_zero, List.getD_eq_getElem?_getD, List.getElem?_eq_getElem hjz, Option.getD_some]
    rw [← t1]; rfl
theorem rdb_cell {w : World} {B : Nat} {A : Option Addr} {L : List Int} (h : RdB w B A L) (hb : Bytes L) (ad : Addr) (hA : A = some ad) : ∀ (i : Nat) x, (u8L L)[i]? = some x → w.cell? (ad.add i) = some (.int .u8 (x.toNat : Int)) := by
  intro i x hx
  have hil : i < L.length := by
    rcases Nat.lt_or_ge i L.length with h | h
    · exact h
    · rw [List.getElem?_eq_none (by rw [u8L_len]; exact h)] at hx; cases hx
  obtain ⟨b, o, e, _, hc⟩ := h (by omega)
  rw [hA] at e
  injection e with e
  subst e
  have h1 := hc i _ (List.getElem?_eq_getElem hil) 0 (by omega)
  unfold u8L at hx
  rw [List.getElem?_map, List.getElem?_eq_getElem hil] at hx
  simp only [Option.map_some, Option.some.injEq] at hx
  rw [Addr.add_mid]
  rw [Nat.mul_one, Nat.add_zero] at h1
  rw [h1, ← hx, u8_back (hb _ (List.getElem_mem hil))]
  rfl
theorem fn_join (A : Option Addr) (N c : Nat) (GG : List (List Int)) (w : World) (hR : RdBL w w.heap.size A GG) (hN : N = GG.length) (hNc : N ≤ c) (hb : ∀ L, L ∈ GG → Bytes L) (hsum : sumB GG ≤ 140737488355328) (hN2 : N ≤ 140737488355328) :
    Calls Tryd.prog 53 #[.slice A N c, .slice none 0 0] w fun e w' => ∃ A' c', e = .returned (.slice A' GG.flatten.length c') ∧ RdB w' w'.heap.size A' GG.flatten ∧ Since w w' := by
  have hbf : Bytes GG.flatten := fun v hv => by
    obtain ⟨L, hL, hv⟩ := List.mem_flatten.1 hv
    exact hb L hL v hv
  have hS0 : Lib.HoldsBytes w (.slice none 0 0) [] := ⟨none, 0, rfl, fun _ => rfl, fun a h => by cases h⟩
  rcases Nat.lt_or_ge GG.length 2 with h2 | h2
  · rcases GG with _ | ⟨L, _ | ⟨L', r⟩⟩
    · subst hN
      refine (Any.bytes_Join_none join A c (.slice none 0 0) w).mono ?_
      rintro e w' ⟨rfl, rfl⟩
      exact ⟨_, _, rfl, RdG.nil, (Since.refl w).alloc _⟩
    · subst hN
      obtain ⟨b, o, A', c', rfl, hbb, hc, _, hr⟩ := hR.row (j := 0) (L := L) rfl
      rw [Nat.add_zero] at hc
      have e1 : [L].flatten = L := by simp
      rw [e1] at hbf ⊢
      rcases Nat.eq_zero_or_pos L.length with h0 | h0
      · rw [h0] at hc
        refine (Any.bytes_Join_one_empty join b o c A' c' (.slice none 0 0) w hc).mono ?_
        rintro e w' ⟨rfl, rfl⟩
        have : L = [] := List.length_eq_zero_iff.1 h0
        subst this
        exact ⟨_, _, rfl, RdG.nil, Since.refl _⟩
      · obtain ⟨b', o', rfl, _, _⟩ := id (hr h0)
        rw [← u8L_len] at hc
        have hs1 : L.length ≤ 140737488355328 := by simpa [sumB] using hsum
        refine (Any.bytes_Join_one join b o c ⟨b', o', none⟩ c' (u8L L) (.slice none 0 0) w hc (rdb_cell hr hbf _ rfl) (by rw [u8L_len]; exact h0) (by rw [u8L_len]; exact hs1)).mono ?_
        rintro e w' ⟨v, rfl, hF, hB⟩
        obtain ⟨A2, c2, rfl, hr2⟩ := fresh_rdb hF hbf
        exact ⟨A2, c2, rfl, hr2, since_of hB⟩
    · simp only [List.length_cons] at h2; omega
  · obtain ⟨b, o, A0, c0, rfl, hbb, _, _, _⟩ := hR.row (j := 0) (List.getElem?_eq_getElem (by omega))
    obtain ⟨hs, hl, hr, hK⟩ := id hR
    have hP : Lib.PartsAt w ⟨b, o, none⟩ (hs.map (fun h => Value.slice h.A h.n h.c)) (GG.map u8L) := by
      refine ⟨by simp [hl], fun i v hv => ?_, fun i v l hv hll => ?_⟩
      · rw [List.getElem?_map] at hv
        cases hi : hs[i]? with
        | none => rw [hi] at hv; cases hv
        | some h =>
          rw [hi] at hv
          simp only [Option.map_some, Option.some.injEq] at hv
          obtain ⟨b', o', e, _, hc⟩ := hr (by omega)
          injection e with e
          injection e with e1 e2
          subst e1 e2
          have := hc i h hi 0 (by omega)
          rw [Nat.mul_one, Nat.add_zero] at this
          rw [Addr.add_mid, this, ← hv]; rfl
      · rw [List.getElem?_map] at hv hll
        cases hi : hs[i]? with
        | none => rw [hi] at hv; cases hv
        | some h =>
          cases hg : GG[i]? with
          | none => rw [hg] at hll; cases hll
          | some L =>
            rw [hi] at hv
            rw [hg] at hll
            simp only [Option.map_some, Option.some.injEq] at hv hll
            obtain ⟨hn, _, hrb⟩ := hK i h L hi hg
            subst hv hll
            refine ⟨h.A, h.c, by rw [u8L_len, hn], fun hA => ?_, fun a ha => rdb_cell hrb (hb L (List.mem_of_getElem? hg)) a ha⟩
            rcases Nat.eq_zero_or_pos L.length with h0 | h0
            · rw [List.length_eq_zero_iff.1 h0]; rfl
            · obtain ⟨b', o', e, _⟩ := hrb h0
              rw [hA] at e; cases e
    refine (Any.bytes_Join_many join b o N c _ (GG.map u8L) (.slice none 0 0) [] w (by simp [hN]) (by omega) hP hNc hS0 hN2 (by rw [lens_sum]; simpa using hsum)).mono ?_
    rintro e w' ⟨v, rfl, hF, hB⟩
    rw [join_flat, u8_flat] at hF
    obtain ⟨A2, c2, rfl, hr2⟩ := fresh_rdb hF hbf
    exact ⟨A2, c2, rfl, hr2, since_of hB⟩
end Go.Proofs.YteckkcpnfeoehaaDoor
