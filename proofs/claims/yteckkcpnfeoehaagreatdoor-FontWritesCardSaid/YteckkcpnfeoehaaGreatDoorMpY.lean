/-
  Texts of this seat, put together: each with its own head.
-/
import Derived.Test.YteckkcpnfeoehaaGreatDoorMpX
import Derived.Test.YteckkcpnfeoehaaGreatDoorJn

/-
  Layer 9: agrees; which tables are made; all glyphs' bytes put together.
-/
namespace Go.Proofs.YteckkcpnfeoehaaGreatDoor
set_option maxRecDepth 100000
open Go.RowKit Go.ChangeShapes Go.WideShapes Go.Deep
set_option linter.unusedVariables false
set_option linter.unusedSimpArgs false

theorem tgLoca_l : tgLoca.toList = [108, 111, 99, 97] := by kernel_rfl
theorem tgGlyf_l : tgGlyf.toList = [103, 108, 121, 102] := by kernel_rfl
theorem tgHmtx_l : tgHmtx.toList = [104, 109, 116, 120] := by kernel_rfl
theorem tgGvar_l : tgGvar.toList = [103, 118, 97, 114] := by kernel_rfl
def isGen (T : Tb) : Bool := eqT tgLoca T || eqT tgGlyf T || eqT tgHmtx T
def isVar (T : Tb) : Bool := eqT tgGvar T
set_option maxHeartbeats 8000000 in
theorem cl_gen (T : Tb) (v : Value) (w : World) :
    Calls Tryz.prog 35 (#[.agg #[.string T.tag, v]] ++ #[]) w fun e w' => e = .returned (.bool (isGen T)) ∧ Since w w' := by
  show Calls Tryz.prog 35 #[.agg #[.string T.tag, v]] w fun e w' => e = .returned (.bool (isGen T)) ∧ Since w w'
  obtain ⟨s, L⟩ := T
  have E := Lib.hid (show isGen ⟨s, L⟩ = (s.toList == [108, 111, 99, 97] || s.toList == [103, 108, 121, 102] || s.toList == [104, 109, 116, 120]) from by unfold isGen eqT; rw [tgLoca_l, tgGlyf_l, tgHmtx_l])
  simp only
  by_cases h1 : s.toList = [108, 111, 99, 97]
  · have d1 : (s.toList == [108, 111, 99, 97]) = true := by simpa using h1
    go_enter Tryz.func35, Tryz.ntmps35
    go_wp2_with fail
    go_ret
    rw [E.out]
    exact ⟨by first | rfl | simp [h1], by (repeat (first | with_reducible (exact Since.refl _) | with_reducible assumption | with_reducible (refine Since.drew ?_) | with_reducible (refine Since.drewN ?_ _) | with_reducible (refine Since.alloc ?_ _) | (with_reducible (refine Since.setCell ?_ ?_ _); rotate_left; focus (first | (simp; done) | (simp; omega) | omega)) | (with_reducible (refine Since.trans ?_ (by with_reducible assumption)))))⟩
  · have d1 : (s.toList == [108, 111, 99, 97]) = false := by simpa using h1
    by_cases h2 : s.toList = [103, 108, 121, 102]
    · have d2 : (s.toList == [103, 108, 121, 102]) = true := by simpa using h2
      go_enter Tryz.func35, Tryz.ntmps35
      go_wp2_with fail
      go_ret
      rw [E.out]
      exact ⟨by first | rfl | simp [h2], by (repeat (first | with_reducible (exact Since.refl _) | with_reducible assumption | with_reducible (refine Since.drew ?_) | with_reducible (refine Since.drewN ?_ _) | with_reducible (refine Since.alloc ?_ _) | (with_reducible (refine Since.setCell ?_ ?_ _); rotate_left; focus (first | (simp; done) | (simp; omega) | omega)) | (with_reducible (refine Since.trans ?_ (by with_reducible assumption)))))⟩
    · have d2 : (s.toList == [103, 108, 121, 102]) = false := by simpa using h2
      by_cases h3 : s.toList = [104, 109, 116, 120]
      · have d3 : (s.toList == [104, 109, 116, 120]) = true := by simpa using h3
        go_enter Tryz.func35, Tryz.ntmps35
        go_wp2_with fail
        go_ret
        rw [E.out]
        exact ⟨by first | rfl | simp [h3], by (repeat (first | with_reducible (exact Since.refl _) | with_reducible assumption | with_reducible (refine Since.drew ?_) | with_reducible (refine Since.drewN ?_ _) | with_reducible (refine Since.alloc ?_ _) | (with_reducible (refine Since.setCell ?_ ?_ _); rotate_left; focus (first | (simp; done) | (simp; omega) | omega)) | (with_reducible (refine Since.trans ?_ (by with_reducible assumption)))))⟩
      · have d3 : (s.toList == [104, 109, 116, 120]) = false := by simpa using h3
        go_enter Tryz.func35, Tryz.ntmps35
        go_wp2_with fail
        go_ret
        rw [E.out]
        exact ⟨by first | rfl | simp [h1, h2, h3], by (repeat (first | with_reducible (exact Since.refl _) | with_reducible assumption | with_reducible (refine Since.drew ?_) | with_reducible (refine Since.drewN ?_ _) | with_reducible (refine Since.alloc ?_ _) | (with_reducible (refine Since.setCell ?_ ?_ _); rotate_left; focus (first | (simp; done) | (simp; omega) | omega)) | (with_reducible (refine Since.trans ?_ (by with_reducible assumption)))))⟩
set_option maxHeartbeats 8000000 in
theorem cl_var (T : Tb) (v : Value) (w : World) :
    Calls Tryz.prog 36 (#[.agg #[.string T.tag, v]] ++ #[]) w fun e w' => e = .returned (.bool (isVar T)) ∧ Since w w' := by
  show Calls Tryz.prog 36 #[.agg #[.string T.tag, v]] w fun e w' => e = .returned (.bool (isVar T)) ∧ Since w w'
  obtain ⟨s, L⟩ := T
  have E := Lib.hid (show isVar ⟨s, L⟩ = (s.toList == [103, 118, 97, 114]) from by unfold isVar eqT; rw [tgGvar_l])
  simp only
  by_cases h1 : s.toList = [103, 118, 97, 114]
  · have d1 : (s.toList == [103, 118, 97, 114]) = true := by simpa using h1
    go_enter Tryz.func36, Tryz.ntmps36
    go_wp2_with fail
    go_ret
    rw [E.out]
    exact ⟨by first | rfl | simp [h1], by (repeat (first | with_reducible (exact Since.refl _) | with_reducible assumption | with_reducible (refine Since.drew ?_) | with_reducible (refine Since.drewN ?_ _) | with_reducible (refine Since.alloc ?_ _) | (with_reducible (refine Since.setCell ?_ ?_ _); rotate_left; focus (first | (simp; done) | (simp; omega) | omega)) | (with_reducible (refine Since.trans ?_ (by with_reducible assumption)))))⟩
  · have d1 : (s.toList == [103, 118, 97, 114]) = false := by simpa using h1
    go_enter Tryz.func36, Tryz.ntmps36
    go_wp2_with fail
    go_ret
    rw [E.out]
    exact ⟨by first | rfl | simp [h1], by (repeat (first | with_reducible (exact Since.refl _) | with_reducible assumption | with_reducible (refine Since.drew ?_) | with_reducible (refine Since.drewN ?_ _) | with_reducible (refine Since.alloc ?_ _) | (with_reducible (refine Since.setCell ?_ ?_ _); rotate_left; focus (first | (simp; done) | (simp; omega) | omega)) | (with_reducible (refine Since.trans ?_ (by with_reducible assumption)))))⟩

theorem enters_gen : ∀ args w, (callFunc 35 args).run Tryz.prog w = .ok (.enter 35 args) w := enters_of Tryz.func35 (by kernel_rfl) rfl
set_option maxHeartbeats 8000000 in
theorem fn_any_gen (A : Option Addr) (n c : Nat) (TT : List Tb) (w : World) (h : RdTL w w.heap.size A TT) (hL : n = TT.length) (hn : n ≤ maxLen) :
    Calls Tryz.prog 34 #[.slice A n c, .func (.func 35) #[] #[]] w fun e w' => e = .returned (.bool (TT.any isGen)) ∧ Since w w' := by
  have HI := Lib.hid (sf_index 35 #[] isGen A n c TT w h hL hn enters_gen (fun T v w1 _ _ => cl_gen T v w1))
  rcases ixF_cases isGen TT 0 with ⟨h1, h2⟩ | ⟨j, T, h1, h2, h3, _⟩
  · have E := Lib.hid (show TT.any isGen = false by rw [List.any_eq_false]; intro T hT; rw [h2 T hT]; simp)
    rw [h1] at HI
    clear h hL h1 h2
    go_enter Tryz.func34, Tryz.ntmps34
    go_wp2_with (go_at_call 75; (with_reducible refine HI.out.mono ?_); rintro e w2 ⟨rfl, hS2⟩)
    go_ret
    rw [E.out]
    exact ⟨rfl, hS2⟩
  · have E := Lib.hid (show TT.any isGen = true by rw [List.any_eq_true]; exact ⟨T, List.mem_of_getElem? h2, h3⟩)
    rw [h1, Nat.zero_add] at HI
    have hj : (0 : Int) ≤ (j : Int) := by omega
    clear h hL h1 h2 h3
    go_enter Tryz.func34, Tryz.ntmps34
    go_wp2_with (go_at_call 75; (with_reducible refine HI.out.mono ?_); rintro e w2 ⟨rfl, hS2⟩)
    go_ret
    rw [E.out]
    exact ⟨by first | rfl | simp, hS2⟩

theorem enters_var : ∀ args w, (callFunc 36 args).run Tryz.prog w = .ok (.enter 36 args) w := enters_of Tryz.func36 (by kernel_rfl) rfl
set_option maxHeartbeats 8000000 in
theorem fn_any_var (A : Option Addr) (n c : Nat) (TT : List Tb) (w : World) (h : RdTL w w.heap.size A TT) (hL : n = TT.length) (hn : n ≤ maxLen) :
    Calls Tryz.prog 34 #[.slice A n c, .func (.func 36) #[] #[]] w fun e w' => e = .returned (.bool (TT.any isVar)) ∧ Since w w' := by
  have HI := Lib.hid (sf_index 36 #[] isVar A n c TT w h hL hn enters_var (fun T v w1 _ _ => cl_var T v w1))
  rcases ixF_cases isVar TT 0 with ⟨h1, h2⟩ | ⟨j, T, h1, h2, h3, _⟩
  · have E := Lib.hid (show TT.any isVar = false by rw [List.any_eq_false]; intro T hT; rw [h2 T hT]; simp)
    rw [h1] at HI
    clear h hL h1 h2
    go_enter Tryz.func34, Tryz.ntmps34
    go_wp2_with (go_at_call 75; (with_reducible refine HI.out.mono ?_); rintro e w2 ⟨rfl, hS2⟩)
    go_ret
    rw [E.out]
    exact ⟨rfl, hS2⟩
  · have E := Lib.hid (show TT.any isVar = true by rw [List.any_eq_true]; exact ⟨T, List.mem_of_getElem? h2, h3⟩)
    rw [h1, Nat.zero_add] at HI
    have hj : (0 : Int) ≤ (j : Int) := by omega
    clear h hL h1 h2 h3
    go_enter Tryz.func34, Tryz.ntmps34
    go_wp2_with (go_at_call 75; (with_reducible refine HI.out.mono ?_); rintro e w2 ⟨rfl, hS2⟩)
    go_ret
    rw [E.out]
    exact ⟨by first | rfl | simp, hS2⟩

theorem made9_is (TT : List Tb) : TT.any isGen = made9 TT := rfl
theorem gvar_is (TT : List Tb) : TT.any isVar = has9 TT tgGvar := rfl
theorem eq_hd9 (w : World) (H K : Hd9) : (Op.equalIn 10000 24 (.agg (hdC H).toArray) (.agg (hdC K).toArray)).run Tryz.prog w = .ok (decide (H = K)) w := by
  obtain ⟨a, b, c, d, e, l⟩ := H
  obtain ⟨a', b', c', d', e', l'⟩ := K
  unfold hdC
  rw [run_equalIn_struct w 9999 24 _ _ (by kernel_rfl) (by kernel_rfl)]
  have heq : ∀ (d : Nat) (a b : Int) (w : World), (Op.equalIn (d + 1) 3 (.int .i64 a) (.int .i64 b)).run Tryz.prog w = .ok (a == b) w := fun d a b w => run_equalIn_int w d _ _ _ a b Tryz.underlying3
  have heqb : ∀ (d : Nat) (a b : Bool) (w : World), (Op.equalIn (d + 1) 4 (.bool a) (.bool b)).run Tryz.prog w = .ok (a == b) w := fun d a b w => by simp [Op.equalIn, run_underlying Tryz.underlying4]
  have hc : Tryz.prog.cellsOf 3 = 1 := by kernel_rfl
  have hcb : Tryz.prog.cellsOf 4 = 1 := by kernel_rfl
  simp only [Program.fieldsOf, Tryz.underlying24]
  by_cases h0 : a = a'
  · by_cases h1 : b = b'
    · by_cases h2 : c = c'
      · by_cases h3 : d = d'
        · by_cases h4 : e = e'
          · by_cases h5 : l = l'
            · simp [go_sem, h0, h1, h2, h3, h4, h5]
            · simp [go_sem, h0, h1, h2, h3, h4, h5]
          · simp [go_sem, h0, h1, h2, h3, h4]
        · simp [go_sem, h0, h1, h2, h3]
      · simp [go_sem, h0, h1, h2]
    · simp [go_sem, h0, h1]
  · simp [go_sem, h0]
theorem eq_mx9 (w : World) (H K : Mx9) : (Op.equalIn 10000 26 (.agg (mxC H).toArray) (.agg (mxC K).toArray)).run Tryz.prog w = .ok (decide (H = K)) w := by
  obtain ⟨a, b, c, d, e, f, g⟩ := H
  obtain ⟨a', b', c', d', e', f', g'⟩ := K
  unfold mxC
  rw [run_equalIn_struct w 9999 26 _ _ (by kernel_rfl) (by kernel_rfl)]
  have heq : ∀ (d : Nat) (a b : Int) (w : World), (Op.equalIn (d + 1) 3 (.int .i64 a) (.int .i64 b)).run Tryz.prog w = .ok (a == b) w := fun d a b w => run_equalIn_int w d _ _ _ a b Tryz.underlying3
  have hc : Tryz.prog.cellsOf 3 = 1 := by kernel_rfl
  simp only [Program.fieldsOf, Tryz.underlying26]
  by_cases h0 : a = a'
  · by_cases h1 : b = b'
    · by_cases h2 : c = c'
      · by_cases h3 : d = d'
        · by_cases h4 : e = e'
          · by_cases h5 : f = f'
            · by_cases h6 : g = g'
              · simp [go_sem, h0, h1, h2, h3, h4, h5, h6]
              · simp [go_sem, h0, h1, h2, h3, h4, h5, h6]
            · simp [go_sem, h0, h1, h2, h3, h4, h5]
          · simp [go_sem, h0, h1, h2, h3, h4]
        · simp [go_sem, h0, h1, h2, h3]
      · simp [go_sem, h0, h1, h2]
    · simp [go_sem, h0, h1]
  · simp [go_sem, h0]
/-- All glyphs' bytes. -/
def u8L (L : List Int) : List UInt8 := L.map (fun x => UInt8.ofNat x.toNat)
theorem u8L_len (L : List Int) : (u8L L).length = L.length := by unfold u8L; simp
theorem u8_back {x : Int} (h : 0 ≤ x ∧ x ≤ 255) : ((UInt8.ofNat x.toNat).toNat : Int) = x := by
  have e : (UInt8.ofNat x.toNat).toNat = x.toNat % 2 ^ 8 := UInt8.toNat_ofNat'
  rw [e]; omega
theorem join_flat : ∀ ls : List (List UInt8), Lib.join ls [] = ls.flatten
  | [] => rfl
  | x :: r => by
    rw [Lib.join_cons, List.flatten_cons]
    unfold Lib.joinTail
    congr 1
    simp
theorem lens_sum (GG : List (List Int)) : Lib.lens (GG.map u8L) = sumB GG := by
  unfold Lib.lens sumB
  rw [List.map_map]
  congr 1
  exact List.map_congr_left fun L _ => u8L_len L
theorem flat_len (GG : List (List Int)) : GG.flatten.length = sumB GG := by unfold sumB; rw [List.length_flatten]
theorem u8_flat (GG : List (List Int)) : (GG.map u8L).flatten = u8L GG.flatten := by
  unfold u8L
  rw [List.map_flatten]
theorem fresh_rdb {B : Nat} {w : World} {v : Value} {L : List Int} (h : Lib.FreshBytes B w v (u8L L)) (hb : Bytes L) : ∃ A c, v = .slice A L.length c ∧ RdB w w.heap.size A L := by
  obtain ⟨g, cap, zs, rfl, _, hl, _, hz, hzr, hzb, hc, _⟩ := h
  rw [u8L_len] at hl hzb ⊢
  refine ⟨_, _, rfl, fun hn => ⟨g, 0, rfl, ?_, fun j s hj i hi => ?_⟩⟩
  · have := hc 0 (by omega)
    exact World.block_lt_of_cell? w _ this
  · obtain rfl : i = 0 := by omega
    have hjl : j < L.length := by
      rcases Nat.lt_or_ge j L.length with h | h
      · exact h
      · rw [List.getElem?_eq_none h] at hj; cases hj
    have h1 := hc j (by omega)
    rw [Nat.mul_one, Nat.zero_add, Nat.add_zero, h1]
    have hjz : j < zs.length := by omega
    have e1 : (Lib.bytesOf (zs.take L.length))[j]? = some (UInt8.ofNat zs[j].toNat) := by
      unfold Lib.bytesOf
      rw [List.getElem?_map, List.getElem?_take_of_lt hjl, List.getElem?_eq_getElem hjz]; rfl
    have e2 : (u8L L)[j]? = some (UInt8.ofNat s.toNat) := by unfold u8L; rw [List.getElem?_map, hj]; rfl
    rw [hzb, e2] at e1
    injection e1 with e1
    have r1 := hzr _ (List.getElem_mem hjz)
    have r2 := hb s (List.mem_of_getElem? hj)
    have t1 := u8_back (x := zs[j]) ⟨r1.1, by omega⟩
    have t2 := u8_back (x := s) r2
    rw [← e1, t2] at t1
    simp only [byL, List.getD_cons_zero, List.getD_eq_getElem?_getD, List.getElem?_eq_getElem hjz, Option.getD_some]
    rw [← t1]; rfl
theorem rdb_cell {w : World} {B : Nat} {A : Option Addr} {L : List Int} (h : RdB w B A L) (hb : Bytes L) (ad : Addr) (hA : A = some ad) : ∀ (i : Nat) x, (u8L L)[i]? = some x → w.cell? (ad.add i) = some (.int .u8 (x.toNat : Int)) := by
  intro i x hx
  have hil : i < L.length := by
    rcases Nat.lt_or_ge i L.length with h | h
    · exact h
    · rw [List.getElem?_eq_none (by rw [u8L_len]; exact h)] at hx; cases hx
  obtain ⟨b, o, e, _, hc⟩ := h (by omega)
  rw [hA] at e
  injection e with e
  subst e
  have h1 := hc i _ (List.getElem?_eq_getElem hil) 0 (by omega)
  unfold u8L at hx
  rw [List.getElem?_map, List.getElem?_eq_getElem hil] at hx
  simp only [Option.map_some, Option.some.injEq] at hx
  rw [Addr.add_mid]
  rw [Nat.mul_one, Nat.add_zero] at h1
  rw [h1, ← hx, u8_back (hb _ (List.getElem_mem hil))]
  rfl
theorem fn_join (A : Option Addr) (N c : Nat) (GG : List (List Int)) (w : World) (hR : RdBL w w.heap.size A GG) (hN : N = GG.length) (hNc : N ≤ c) (hb : ∀ L, L ∈ GG → Bytes L) (hsum : sumB GG ≤ 140737488355328) (hN2 : N ≤ 140737488355328) :
    Calls Tryz.prog 61 #[.slice A N c, .slice none 0 0] w fun e w' => ∃ A' c', e = .returned (.slice A' GG.flatten.length c') ∧ RdB w' w'.heap.size A' GG.flatten ∧ Since w w' := by
  have hbf : Bytes GG.flatten := fun v hv => by
    obtain ⟨L, hL, hv⟩ := List.mem_flatten.1 hv
    exact hb L hL v hv
  have hS0 : Lib.HoldsBytes w (.slice none 0 0) [] := ⟨none, 0, rfl, fun _ => rfl, fun a h => by cases h⟩
  rcases Nat.lt_or_ge GG.length 2 with h2 | h2
  · rcases GG with _ | ⟨L, _ | ⟨L', r⟩⟩
    · subst hN
      refine (Any.bytes_Join_none join A c (.slice none 0 0) w).mono ?_
      rintro e w' ⟨rfl, rfl⟩
      exact ⟨_, _, rfl, RdG.nil, (Since.refl w).alloc _⟩
    · subst hN
      obtain ⟨b, o, A', c', rfl, hbb, hc, _, hr⟩ := hR.row (j := 0) (L := L) rfl
      rw [Nat.add_zero] at hc
      have e1 : [L].flatten = L := by simp
      rw [e1] at hbf ⊢
      rcases Nat.eq_zero_or_pos L.length with h0 | h0
      · rw [h0] at hc
        refine (Any.bytes_Join_one_empty join b o c A' c' (.slice none 0 0) w hc).mono ?_
        rintro e w' ⟨rfl, rfl⟩
        have : L = [] := List.length_eq_zero_iff.1 h0
        subst this
        exact ⟨_, _, rfl, RdG.nil, Since.refl _⟩
      · obtain ⟨b', o', rfl, _, _⟩ := id (hr h0)
        rw [← u8L_len] at hc
        have hs1 : L.length ≤ 140737488355328 := by simpa [sumB] using hsum
        refine (Any.bytes_Join_one join b o c ⟨b', o', none⟩ c' (u8L L) (.slice none 0 0) w hc (rdb_cell hr hbf _ rfl) (by rw [u8L_len]; exact h0) (by rw [u8L_len]; exact hs1)).mono ?_
        rintro e w' ⟨v, rfl, hF, hB⟩
        obtain ⟨A2, c2, rfl, hr2⟩ := fresh_rdb hF hbf
        exact ⟨A2, c2, rfl, hr2, since_of hB⟩
    · simp only [List.length_cons] at h2; omega
  · obtain ⟨b, o, A0, c0, rfl, hbb, _, _, _⟩ := hR.row (j := 0) (List.getElem?_eq_getElem (by omega))
    obtain ⟨hs, hl, hr, hK⟩ := id hR
    have hP : Lib.PartsAt w ⟨b, o, none⟩ (hs.map (fun h => Value.slice h.A h.n h.c)) (GG.map u8L) := by
      refine ⟨by simp [hl], fun i v hv => ?_, fun i v l hv hll => ?_⟩
      · rw [List.getElem?_map] at hv
        cases hi : hs[i]? with
        | none => rw [hi] at hv; cases hv
        | some h =>
          rw [hi] at hv
          simp only [Option.map_some, Option.some.injEq] at hv
          obtain ⟨b', o', e, _, hc⟩ := hr (by omega)
          injection e with e
          injection e with e1 e2
          subst e1 e2
          have := hc i h hi 0 (by omega)
          rw [Nat.mul_one, Nat.add_zero] at this
          rw [Addr.add_mid, this, ← hv]; rfl
      · rw [List.getElem?_map] at hv hll
        cases hi : hs[i]? with
        | none => rw [hi] at hv; cases hv
        | some h =>
          cases hg : GG[i]? with
          | none => rw [hg] at hll; cases hll
          | some L =>
            rw [hi] at hv
            rw [hg] at hll
            simp only [Option.map_some, Option.some.injEq] at hv hll
            obtain ⟨hn, _, hrb⟩ := hK i h L hi hg
            subst hv hll
            refine ⟨h.A, h.c, by rw [u8L_len, hn], fun hA => ?_, fun a ha => rdb_cell hrb (hb L (List.mem_of_getElem? hg)) a ha⟩
            rcases Nat.eq_zero_or_pos L.length with h0 | h0
            · rw [List.length_eq_zero_iff.1 h0]; rfl
            · obtain ⟨b', o', e, _⟩ := hrb h0
              rw [hA] at e; cases e
    refine (Any.bytes_Join_many join b o N c _ (GG.map u8L) (.slice none 0 0) [] w (by simp [hN]) (by omega) hP hNc hS0 hN2 (by rw [lens_sum]; simpa using hsum)).mono ?_
    rintro e w' ⟨v, rfl, hF, hB⟩
    rw [join_flat, u8_flat] at hF
    obtain ⟨A2, c2, rfl, hr2⟩ := fresh_rdb hF hbf
    exact ⟨A2, c2, rfl, hr2, since_of hB⟩
end Go.Proofs.YteckkcpnfeoehaaGreatDoor

/-
  Layer 9: agrees.
-/
namespace Go.Proofs.YteckkcpnfeoehaaGreatDoor
set_option maxRecDepth 100000
open Go.RowKit Go.ChangeShapes Go.WideShapes Go.Deep
set_option linter.unusedVariables false
set_option linter.unusedSimpArgs false

abbrev hdA (h : Hd9) : Array Value := #[.int .i64 h.em, .int .i64 h.a, .int .i64 h.b, .int .i64 h.c, .int .i64 h.d, .bool h.l]
abbrev mxA (m : Mx9) : Array Value := #[.int .i64 m.g, .int .i64 m.p, .int .i64 m.c, .int .i64 m.q, .int .i64 m.r, .int .i64 m.e, .int .i64 m.d]
theorem new_hd (w : World) (b : Nat) (hb : b = w.heap.size) (t : TypeId) : BoxL (w.alloc (.cells #[.int .i64 0, .int .i64 0, .int .i64 0, .int .i64 0, .int .i64 0, .bool false] t)) b (hdC zH) := BoxL.new w b hb t _
theorem new_mx (w : World) (b : Nat) (hb : b = w.heap.size) (t : TypeId) : BoxL (w.alloc (.cells #[.int .i64 0, .int .i64 0, .int .i64 0, .int .i64 0, .int .i64 0, .int .i64 0, .int .i64 0] t)) b (mxC zM) := BoxL.new w b hb t _
/-- A font's cells, one by one. -/
theorem fn_cells {w : World} {b nt nm ng : Nat} {x : Fh} {h : Hd9} {m : Mx9} {ct : Int} (hB : BoxL w b (fnC x nt h m nm ct ng)) :
    w.cell? ⟨b, 0, none⟩ = some (.slice x.At nt x.ct) ∧ (w.cell? ⟨b, 1, none⟩ = some (.int .i64 h.em) ∧ w.cell? ⟨b, 2, none⟩ = some (.int .i64 h.a) ∧ w.cell? ⟨b, 3, none⟩ = some (.int .i64 h.b) ∧ w.cell? ⟨b, 4, none⟩ = some (.int .i64 h.c) ∧ w.cell? ⟨b, 5, none⟩ = some (.int .i64 h.d) ∧ w.cell? ⟨b, 6, none⟩ = some (.bool h.l)) ∧
    (w.cell? ⟨b, 7, none⟩ = some (.int .i64 m.g) ∧ w.cell? ⟨b, 8, none⟩ = some (.int .i64 m.p) ∧ w.cell? ⟨b, 9, none⟩ = some (.int .i64 m.c) ∧ w.cell? ⟨b, 10, none⟩ = some (.int .i64 m.q) ∧ w.cell? ⟨b, 11, none⟩ = some (.int .i64 m.r) ∧ w.cell? ⟨b, 12, none⟩ = some (.int .i64 m.e) ∧ w.cell? ⟨b, 13, none⟩ = some (.int .i64 m.d)) ∧
    w.cell? ⟨b, 14, none⟩ = some (.slice x.Am nm x.cm) ∧ w.cell? ⟨b, 15, none⟩ = some (.int .i64 ct) ∧ w.cell? ⟨b, 16, none⟩ = some (.slice x.Ag ng x.cg) :=
  ⟨hB.cell 0 rfl, ⟨hB.cell 1 rfl, hB.cell 2 rfl, hB.cell 3 rfl, hB.cell 4 rfl, hB.cell 5 rfl, hB.cell 6 rfl⟩, ⟨hB.cell 7 rfl, hB.cell 8 rfl, hB.cell 9 rfl, hB.cell 10 rfl, hB.cell 11 rfl, hB.cell 12 rfl, hB.cell 13 rfl⟩, hB.cell 14 rfl, hB.cell 15 rfl, hB.cell 16 rfl⟩
theorem hd_cells {w : World} {b : Nat} {h : Hd9} (hB : BoxL w b (hdC h)) : w.cell? ⟨b, 0, none⟩ = some (.int .i64 h.em) ∧ w.cell? ⟨b, 1, none⟩ = some (.int .i64 h.a) ∧ w.cell? ⟨b, 2, none⟩ = some (.int .i64 h.b) ∧ w.cell? ⟨b, 3, none⟩ = some (.int .i64 h.c) ∧ w.cell? ⟨b, 4, none⟩ = some (.int .i64 h.d) ∧ w.cell? ⟨b, 5, none⟩ = some (.bool h.l) :=
  ⟨hB.cell 0 rfl, hB.cell 1 rfl, hB.cell 2 rfl, hB.cell 3 rfl, hB.cell 4 rfl, hB.cell 5 rfl⟩
theorem mx_cells {w : World} {b : Nat} {m : Mx9} (hB : BoxL w b (mxC m)) : w.cell? ⟨b, 0, none⟩ = some (.int .i64 m.g) ∧ w.cell? ⟨b, 1, none⟩ = some (.int .i64 m.p) ∧ w.cell? ⟨b, 2, none⟩ = some (.int .i64 m.c) ∧ w.cell? ⟨b, 3, none⟩ = some (.int .i64 m.q) ∧ w.cell? ⟨b, 4, none⟩ = some (.int .i64 m.r) ∧ w.cell? ⟨b, 5, none⟩ = some (.int .i64 m.e) ∧ w.cell? ⟨b, 6, none⟩ = some (.int .i64 m.d) :=
  ⟨hB.cell 0 rfl, hB.cell 1 rfl, hB.cell 2 rfl, hB.cell 3 rfl, hB.cell 4 rfl, hB.cell 5 rfl, hB.cell 6 rfl⟩
theorem agr_b (F : Fn9) : decide (agr9 F) = (decide (fldE F.TT = 0) && (decide (fldH F.TT = F.h) && (decide (fldM F.TT = F.m) && (fldC F.TT == F.ct)))) := by
  rw [Bool.eq_iff_iff, decide_eq_true_iff]
  simp [agr9]
set_option maxRecDepth 1000000 in
set_option maxHeartbeats 16000000 in
theorem fn_agrees (x : Fh) (F : Fn9) (C : Array Value) (hC : C = fnV x F) (w : World) (hT : Tabs w) (hR : RdTL w w.heap.size x.At F.TT) (hn : F.TT.length ≤ maxLen) (hm : ∀ T, T ∈ F.TT → T.data.length ≤ 140737488355328) (hby : ∀ T, T ∈ F.TT → Bytes T.data) :
    Calls Tryz.prog 37 #[.agg C] w fun e w' => e = .returned (.bool (decide (agr9 F))) ∧ Since w w' := by
  obtain ⟨xAt, xct, xAm, xcm, xAg, xcg⟩ := x
  have hR : RdTL w w.heap.size xAt F.TT := hR
  have HBX := Lib.hid (fun (t : TypeId) => (fn_box (x := ⟨xAt, xct, xAm, xcm, xAg, xcg⟩) (nt := F.TT.length) (h := F.h) (m := F.m) (nm := F.MM.length) (ct := F.ct) (ng := F.GG.length) w w.heap.size rfl t))
  have HC := Lib.hid (show C = (fnC ⟨xAt, xct, xAm, xcm, xAg, xcg⟩ F.TT.length F.h F.m F.MM.length F.ct F.GG.length).toArray from hC)
  have HFD := Lib.hid (fun (w2 : World) (h2 : Since w w2) => fn_fields F.TT xAt F.TT.length xct w2 (hT.since h2) (hR.on h2) rfl hn hm hby)
  unfold FldP at HFD
  obtain ⟨D, hD⟩ : ∃ D, D = decide (agr9 F) := ⟨_, rfl⟩
  rw [← hD]
  rw [agr_b] at hD
  generalize fldH F.TT = H at *
  generalize fldM F.TT = M at *
  generalize fldC F.TT = K at *
  generalize fldE F.TT = E at *
  generalize F.TT.length = nt at *
  generalize F.MM.length = nm at *
  generalize F.GG.length = ng at *
  generalize F.h = h' at *
  generalize F.m = m' at *
  generalize F.ct = k' at *
  have HD := Lib.hid hD
  clear hC hR hT hD hm hby
  by_cases hE : E = 0
  · subst hE
    have eH : ∀ w, (Op.equalIn 10000 24 (.agg (hdA H)) (.agg (hdA h'))).run Tryz.prog w = .ok (decide (H = h')) w := fun w => eq_hd9 w H h'
    have eM : ∀ w, (Op.equalIn 10000 26 (.agg (mxA M)) (.agg (mxA m'))).run Tryz.prog w = .ok (decide (M = m')) w := fun w => eq_mx9 w M m'
    unfold hdA at eH
    unfold mxA at eM
    have fin : ∀ (a b c : Bool), decide (H = h') = a → decide (M = m') = b → (K == k') = c → D = (a && b && c) := fun a b c h1 h2 h3 => by
      rw [HD.out, h1, h2, h3]; simp [Bool.and_assoc]
    have FIN := Lib.hid fin
    clear fin
    by_cases q1 : H = h'
    · have d1 : decide (H = h') = true := by simpa using q1
      by_cases q2 : M = m'
      · have d2 : decide (M = m') = true := by simpa using q2
        cases q3 : K == k'
        · have e3 := FIN.out _ _ _ d1 d2 q3
          rw [d1] at eH
          rw [d2] at eM
          have E3 := Lib.hid e3
          clear e3 HD
          (try clear q1)
          (try clear q2)
          (try clear d1)
          (try clear d2)
          go_enter Tryz.func37, Tryz.ntmps37
          go_upto_region 1 with fail
          refine wp_named fun w1 hw1 => ?_
          have hS1 : Since w w1 := by subst hw1; (repeat (first | with_reducible (exact Since.refl _) | with_reducible assumption | with_reducible (refine Since.drew ?_) | with_reducible (refine Since.drewN ?_ _) | with_reducible (refine Since.alloc ?_ _) | (with_reducible (refine Since.setCell ?_ ?_ _); rotate_left; focus (first | (simp; done) | (simp; omega) | omega)) | (with_reducible (refine Since.trans ?_ (by with_reducible assumption)))))
          have hB1 : BoxL w1 w.heap.size (fnC ⟨xAt, xct, xAm, xcm, xAg, xcg⟩ nt h' m' nm k' ng) := by subst hw1; rw [HC.out]; exact HBX.out _
          clear hw1 HBX
          obtain ⟨c0, _⟩ := fn_cells hB1
          go_wp2_with (first | (go_at_call 55; (with_reducible refine (HFD.out _ hS1).mono ?_); rintro e w2 ⟨rfl, hS2⟩; have hS12 := hS1.trans hS2; have hB2 := hB1.since hS2; have hX := ((Since.refl w2).alloc (.cells #[.int .i64 0, .int .i64 0, .int .i64 0, .int .i64 0, .int .i64 0, .bool false] 24)).alloc (.cells #[.int .i64 0, .int .i64 0, .int .i64 0, .int .i64 0, .int .i64 0, .int .i64 0, .int .i64 0] 26)) | (refine wp_hd_store rfl _ _ rfl (by rfl) (by with_reducible exact (new_hd w2 w2.heap.size rfl _).alloc _) H (by rfl) ?_; intro w3 hb1 hN3; have hb2 := (new_mx (w2.alloc (.cells #[.int .i64 0, .int .i64 0, .int .i64 0, .int .i64 0, .int .i64 0, .bool false] 24)) (w2.heap.size + 1) (by simp) 26).nigh hN3 (by omega); have hS13 := hN3.2 w2 hX (Nat.le_refl _); have hB3 := hB2.since hS13) | (refine wp_mx_store rfl _ _ rfl (by rfl) (by with_reducible exact hb2) M (by rfl) ?_; intro w4 hb4 hN4; have hb3 := hb1.nigh hN4 (by omega); have hS14 := hN4.2 w2 hS13 (Nat.le_succ _); have hB4 := hB2.since hS14; obtain ⟨i0, i1, i2, i3, i4, i5⟩ := hd_cells hb3; obtain ⟨j0, j1, j2, j3, j4, j5, j6⟩ := mx_cells hb4; obtain ⟨f0, ⟨f1, f2, f3, f4, f5, f6⟩, ⟨f7, f8, f9, fa, fb, fc, fd⟩, fe, ff, fg⟩ := fn_cells hB4; clear f0 fe fg))
          go_ret
          rw [E3.out]
          exact ⟨by first | rfl | simp_all, hS12.trans (by (repeat (first | with_reducible (exact Since.refl _) | with_reducible assumption | with_reducible (refine Since.drew ?_) | with_reducible (refine Since.drewN ?_ _) | with_reducible (refine Since.alloc ?_ _) | (with_reducible (refine Since.setCell ?_ ?_ _); rotate_left; focus (first | (simp; done) | (simp; omega) | omega)) | (with_reducible (refine Since.trans ?_ (by with_reducible assumption))))))⟩
        · have e3 := FIN.out _ _ _ d1 d2 q3
          rw [d1] at eH
          rw [d2] at eM
          have E3 := Lib.hid e3
          clear e3 HD
          (try clear q1)
          (try clear q2)
          (try clear d1)
          (try clear d2)
          go_enter Tryz.func37, Tryz.ntmps37
          go_upto_region 1 with fail
          refine wp_named fun w1 hw1 => ?_
          have hS1 : Since w w1 := by subst hw1; (repeat (first | with_reducible (exact Since.refl _) | with_reducible assumption | with_reducible (refine Since.drew ?_) | with_reducible (refine Since.drewN ?_ _) | with_reducible (refine Since.alloc ?_ _) | (with_reducible (refine Since.setCell ?_ ?_ _); rotate_left; focus (first | (simp; done) | (simp; omega) | omega)) | (with_reducible (refine Since.trans ?_ (by with_reducible assumption)))))
          have hB1 : BoxL w1 w.heap.size (fnC ⟨xAt, xct, xAm, xcm, xAg, xcg⟩ nt h' m' nm k' ng) := by subst hw1; rw [HC.out]; exact HBX.out _
          clear hw1 HBX
          obtain ⟨c0, _⟩ := fn_cells hB1
          go_wp2_with (first | (go_at_call 55; (with_reducible refine (HFD.out _ hS1).mono ?_); rintro e w2 ⟨rfl, hS2⟩; have hS12 := hS1.trans hS2; have hB2 := hB1.since hS2; have hX := ((Since.refl w2).alloc (.cells #[.int .i64 0, .int .i64 0, .int .i64 0, .int .i64 0, .int .i64 0, .bool false] 24)).alloc (.cells #[.int .i64 0, .int .i64 0, .int .i64 0, .int .i64 0, .int .i64 0, .int .i64 0, .int .i64 0] 26)) | (refine wp_hd_store rfl _ _ rfl (by rfl) (by with_reducible exact (new_hd w2 w2.heap.size rfl _).alloc _) H (by rfl) ?_; intro w3 hb1 hN3; have hb2 := (new_mx (w2.alloc (.cells #[.int .i64 0, .int .i64 0, .int .i64 0, .int .i64 0, .int .i64 0, .bool false] 24)) (w2.heap.size + 1) (by simp) 26).nigh hN3 (by omega); have hS13 := hN3.2 w2 hX (Nat.le_refl _); have hB3 := hB2.since hS13) | (refine wp_mx_store rfl _ _ rfl (by rfl) (by with_reducible exact hb2) M (by rfl) ?_; intro w4 hb4 hN4; have hb3 := hb1.nigh hN4 (by omega); have hS14 := hN4.2 w2 hS13 (Nat.le_succ _); have hB4 := hB2.since hS14; obtain ⟨i0, i1, i2, i3, i4, i5⟩ := hd_cells hb3; obtain ⟨j0, j1, j2, j3, j4, j5, j6⟩ := mx_cells hb4; obtain ⟨f0, ⟨f1, f2, f3, f4, f5, f6⟩, ⟨f7, f8, f9, fa, fb, fc, fd⟩, fe, ff, fg⟩ := fn_cells hB4; clear f0 fe fg))
          go_ret
          rw [E3.out]
          exact ⟨by first | rfl | simp_all, hS12.trans (by (repeat (first | with_reducible (exact Since.refl _) | with_reducible assumption | with_reducible (refine Since.drew ?_) | with_reducible (refine Since.drewN ?_ _) | with_reducible (refine Since.alloc ?_ _) | (with_reducible (refine Since.setCell ?_ ?_ _); rotate_left; focus (first | (simp; done) | (simp; omega) | omega)) | (with_reducible (refine Since.trans ?_ (by with_reducible assumption))))))⟩
      · have d2 : decide (M = m') = false := by simpa using q2
        have e3 := FIN.out _ _ _ d1 d2 rfl
        rw [d1] at eH
        rw [d2] at eM
        have E3 := Lib.hid e3
        clear e3 HD
        (try clear q1)
        (try clear q2)
        (try clear d1)
        (try clear d2)
        go_enter Tryz.func37, Tryz.ntmps37
        go_upto_region 1 with fail
        refine wp_named fun w1 hw1 => ?_
        have hS1 : Since w w1 := by subst hw1; (repeat (first | with_reducible (exact Since.refl _) | with_reducible assumption | with_reducible (refine Since.drew ?_) | with_reducible (refine Since.drewN ?_ _) | with_reducible (refine Since.alloc ?_ _) | (with_reducible (refine Since.setCell ?_ ?_ _); rotate_left; focus (first | (simp; done) | (simp; omega) | omega)) | (with_reducible (refine Since.trans ?_ (by with_reducible assumption)))))
        have hB1 : BoxL w1 w.heap.size (fnC ⟨xAt, xct, xAm, xcm, xAg, xcg⟩ nt h' m' nm k' ng) := by subst hw1; rw [HC.out]; exact HBX.out _
        clear hw1 HBX
        obtain ⟨c0, _⟩ := fn_cells hB1
        go_wp2_with (first | (go_at_call 55; (with_reducible refine (HFD.out _ hS1).mono ?_); rintro e w2 ⟨rfl, hS2⟩; have hS12 := hS1.trans hS2; have hB2 := hB1.since hS2; have hX := ((Since.refl w2).alloc (.cells #[.int .i64 0, .int .i64 0, .int .i64 0, .int .i64 0, .int .i64 0, .bool false] 24)).alloc (.cells #[.int .i64 0, .int .i64 0, .int .i64 0, .int .i64 0, .int .i64 0, .int .i64 0, .int .i64 0] 26)) | (refine wp_hd_store rfl _ _ rfl (by rfl) (by with_reducible exact (new_hd w2 w2.heap.size rfl _).alloc _) H (by rfl) ?_; intro w3 hb1 hN3; have hb2 := (new_mx (w2.alloc (.cells #[.int .i64 0, .int .i64 0, .int .i64 0, .int .i64 0, .int .i64 0, .bool false] 24)) (w2.heap.size + 1) (by simp) 26).nigh hN3 (by omega); have hS13 := hN3.2 w2 hX (Nat.le_refl _); have hB3 := hB2.since hS13) | (refine wp_mx_store rfl _ _ rfl (by rfl) (by with_reducible exact hb2) M (by rfl) ?_; intro w4 hb4 hN4; have hb3 := hb1.nigh hN4 (by omega); have hS14 := hN4.2 w2 hS13 (Nat.le_succ _); have hB4 := hB2.since hS14; obtain ⟨i0, i1, i2, i3, i4, i5⟩ := hd_cells hb3; obtain ⟨j0, j1, j2, j3, j4, j5, j6⟩ := mx_cells hb4; obtain ⟨f0, ⟨f1, f2, f3, f4, f5, f6⟩, ⟨f7, f8, f9, fa, fb, fc, fd⟩, fe, ff, fg⟩ := fn_cells hB4; clear f0 fe fg))
        go_ret
        rw [E3.out]
        exact ⟨by first | rfl | simp_all, hS12.trans (by (repeat (first | with_reducible (exact Since.refl _) | with_reducible assumption | with_reducible (refine Since.drew ?_) | with_reducible (refine Since.drewN ?_ _) | with_reducible (refine Since.alloc ?_ _) | (with_reducible (refine Since.setCell ?_ ?_ _); rotate_left; focus (first | (simp; done) | (simp; omega) | omega)) | (with_reducible (refine Since.trans ?_ (by with_reducible assumption))))))⟩
    · have d1 : decide (H = h') = false := by simpa using q1
      have e3 := FIN.out _ _ _ d1 rfl rfl
      rw [d1] at eH
      have E3 := Lib.hid e3
      clear e3 HD
      (try clear q1)
      (try clear q2)
      (try clear d1)
      (try clear d2)
      go_enter Tryz.func37, Tryz.ntmps37
      go_upto_region 1 with fail
      refine wp_named fun w1 hw1 => ?_
      have hS1 : Since w w1 := by subst hw1; (repeat (first | with_reducible (exact Since.refl _) | with_reducible assumption | with_reducible (refine Since.drew ?_) | with_reducible (refine Since.drewN ?_ _) | with_reducible (refine Since.alloc ?_ _) | (with_reducible (refine Since.setCell ?_ ?_ _); rotate_left; focus (first | (simp; done) | (simp; omega) | omega)) | (with_reducible (refine Since.trans ?_ (by with_reducible assumption)))))
      have hB1 : BoxL w1 w.heap.size (fnC ⟨xAt, xct, xAm, xcm, xAg, xcg⟩ nt h' m' nm k' ng) := by subst hw1; rw [HC.out]; exact HBX.out _
      clear hw1 HBX
      obtain ⟨c0, _⟩ := fn_cells hB1
      go_wp2_with (first | (go_at_call 55; (with_reducible refine (HFD.out _ hS1).mono ?_); rintro e w2 ⟨rfl, hS2⟩; have hS12 := hS1.trans hS2; have hB2 := hB1.since hS2; have hX := ((Since.refl w2).alloc (.cells #[.int .i64 0, .int .i64 0, .int .i64 0, .int .i64 0, .int .i64 0, .bool false] 24)).alloc (.cells #[.int .i64 0, .int .i64 0, .int .i64 0, .int .i64 0, .int .i64 0, .int .i64 0, .int .i64 0] 26)) | (refine wp_hd_store rfl _ _ rfl (by rfl) (by with_reducible exact (new_hd w2 w2.heap.size rfl _).alloc _) H (by rfl) ?_; intro w3 hb1 hN3; have hb2 := (new_mx (w2.alloc (.cells #[.int .i64 0, .int .i64 0, .int .i64 0, .int .i64 0, .int .i64 0, .bool false] 24)) (w2.heap.size + 1) (by simp) 26).nigh hN3 (by omega); have hS13 := hN3.2 w2 hX (Nat.le_refl _); have hB3 := hB2.since hS13) | (refine wp_mx_store rfl _ _ rfl (by rfl) (by with_reducible exact hb2) M (by rfl) ?_; intro w4 hb4 hN4; have hb3 := hb1.nigh hN4 (by omega); have hS14 := hN4.2 w2 hS13 (Nat.le_succ _); have hB4 := hB2.since hS14; obtain ⟨i0, i1, i2, i3, i4, i5⟩ := hd_cells hb3; obtain ⟨j0, j1, j2, j3, j4, j5, j6⟩ := mx_cells hb4; obtain ⟨f0, ⟨f1, f2, f3, f4, f5, f6⟩, ⟨f7, f8, f9, fa, fb, fc, fd⟩, fe, ff, fg⟩ := fn_cells hB4; clear f0 fe fg))
      go_ret
      rw [E3.out]
      exact ⟨by first | rfl | simp_all, hS12.trans (by (repeat (first | with_reducible (exact Since.refl _) | with_reducible assumption | with_reducible (refine Since.drew ?_) | with_reducible (refine Since.drewN ?_ _) | with_reducible (refine Since.alloc ?_ _) | (with_reducible (refine Since.setCell ?_ ?_ _); rotate_left; focus (first | (simp; done) | (simp; omega) | omega)) | (with_reducible (refine Since.trans ?_ (by with_reducible assumption))))))⟩
  · have d0 : (E == 0) = false := by simpa using hE
    have e3 : D = false := by rw [HD.out]; simp [hE]
    have E3 := Lib.hid e3
    clear e3 HD
    (try clear q1)
    (try clear q2)
    (try clear d1)
    (try clear d2)
    go_enter Tryz.func37, Tryz.ntmps37
    go_upto_region 1 with fail
    refine wp_named fun w1 hw1 => ?_
    have hS1 : Since w w1 := by subst hw1; (repeat (first | with_reducible (exact Since.refl _) | with_reducible assumption | with_reducible (refine Since.drew ?_) | with_reducible (refine Since.drewN ?_ _) | with_reducible (refine Since.alloc ?_ _) | (with_reducible (refine Since.setCell ?_ ?_ _); rotate_left; focus (first | (simp; done) | (simp; omega) | omega)) | (with_reducible (refine Since.trans ?_ (by with_reducible assumption)))))
    have hB1 : BoxL w1 w.heap.size (fnC ⟨xAt, xct, xAm, xcm, xAg, xcg⟩ nt h' m' nm k' ng) := by subst hw1; rw [HC.out]; exact HBX.out _
    clear hw1 HBX
    obtain ⟨c0, _⟩ := fn_cells hB1
    go_wp2_with (first | (go_at_call 55; (with_reducible refine (HFD.out _ hS1).mono ?_); rintro e w2 ⟨rfl, hS2⟩; have hS12 := hS1.trans hS2; have hB2 := hB1.since hS2; have hX := ((Since.refl w2).alloc (.cells #[.int .i64 0, .int .i64 0, .int .i64 0, .int .i64 0, .int .i64 0, .bool false] 24)).alloc (.cells #[.int .i64 0, .int .i64 0, .int .i64 0, .int .i64 0, .int .i64 0, .int .i64 0, .int .i64 0] 26)) | (refine wp_hd_store rfl _ _ rfl (by rfl) (by with_reducible exact (new_hd w2 w2.heap.size rfl _).alloc _) H (by rfl) ?_; intro w3 hb1 hN3; have hb2 := (new_mx (w2.alloc (.cells #[.int .i64 0, .int .i64 0, .int .i64 0, .int .i64 0, .int .i64 0, .bool false] 24)) (w2.heap.size + 1) (by simp) 26).nigh hN3 (by omega); have hS13 := hN3.2 w2 hX (Nat.le_refl _); have hB3 := hB2.since hS13) | (refine wp_mx_store rfl _ _ rfl (by rfl) (by with_reducible exact hb2) M (by rfl) ?_; intro w4 hb4 hN4; have hb3 := hb1.nigh hN4 (by omega); have hS14 := hN4.2 w2 hS13 (Nat.le_succ _); have hB4 := hB2.since hS14; obtain ⟨i0, i1, i2, i3, i4, i5⟩ := hd_cells hb3; obtain ⟨j0, j1, j2, j3, j4, j5, j6⟩ := mx_cells hb4; obtain ⟨f0, ⟨f1, f2, f3, f4, f5, f6⟩, ⟨f7, f8, f9, fa, fb, fc, fd⟩, fe, ff, fg⟩ := fn_cells hB4; clear f0 fe fg))
    go_ret
    rw [E3.out]
    exact ⟨by first | rfl | simp_all, hS12.trans (by (repeat (first | with_reducible (exact Since.refl _) | with_reducible assumption | with_reducible (refine Since.drew ?_) | with_reducible (refine Since.drewN ?_ _) | with_reducible (refine Since.alloc ?_ _) | (with_reducible (refine Since.setCell ?_ ?_ _); rotate_left; focus (first | (simp; done) | (simp; omega) | omega)) | (with_reducible (refine Since.trans ?_ (by with_reducible assumption))))))⟩
end Go.Proofs.YteckkcpnfeoehaaGreatDoor
