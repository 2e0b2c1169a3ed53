/-
  Texts of this seat, put together: each with its own head.
-/
import Derived.Test.YteckkcpnfeoehaaGreatDoorFoI
import Derived.Test.YteckkcpnfeoehaaGreatDoorMpI
import Derived.Test.YteckkcpnfeoehaaGreatDoorMpO

/-
  Layer 9: the document's Places and table; what its layers 5 and 6 put, of lists.
-/
namespace Go.Proofs.YteckkcpnfeoehaaGreatDoor
set_option maxRecDepth 100000
open Go.RowKit Go.ChangeShapes Go.WideShapes Go.Deep
set_option linter.unusedVariables false
set_option linter.unusedSimpArgs false

/-- What table answers. -/
def TabP9 (TT : List Tb) (s : ByteArray) (w : World) (e : Ending) (w' : World) : Prop := ∃ A n c, e = .returned (.tuple #[.slice A n c, .bool (has9 TT s)]) ∧ n = (dat9 TT s).length ∧ RdB w' w'.heap.size A (dat9 TT s) ∧ Since w w'
set_option maxRecDepth 1000000 in
set_option maxHeartbeats 16000000 in
theorem rf_table9 (s : ByteArray) (A : Option Addr) (n c : Nat) (TT : List Tb) (w : World) (h : RdTL w w.heap.size A TT) (hL : n = TT.length) (hn : n ≤ maxLen) (hs : s.size ≤ 100) :
    Calls Tryz.prog 28 #[.slice A n c, .string s] w (TabP9 TT s w) := by
  have hn' : (n : Int) ≤ 9223372036854775807 := by simp only [maxLen] at hn; omega
  have HF := Lib.hid (fun (w2 : World) (h2 : Since w w2) => rf_find s A n c TT w2 (h.on h2) hL hn)
  have HR := Lib.hid h
  rcases has_ix TT s with ⟨hh, hno, hd⟩ | ⟨hh, j, T, hT, heq, hf, hd, hi⟩
  · have HY := Lib.hid (fun (w' : World) (hS : Since w w') => (show TabP9 TT s w (.returned (.tuple #[.slice none 0 0, .bool false])) w' from ⟨none, 0, 0, by rw [hh], by rw [hd]; rfl, by rw [hd]; exact RdG.nil, hS⟩))
    have hi : ixF (eqT s) 0 TT = -1 := ixF_none TT 0 hno
    rw [hi] at HF
    clear h hh hno hd hi hL
    go_enter Tryz.func28, Tryz.ntmps28
    go_wp2_with (go_at_call 27; (with_reducible refine (HF.out _ (Since.refl _)).mono ?_); rintro e w2 ⟨rfl, hS2⟩)
    go_ret2
    exact HY.out _ hS2
  · have hj : j < n := by
      rw [hL]
      rcases Nat.lt_or_ge j TT.length with h | h
      · exact h
      · rw [List.getElem?_eq_none h] at hT; cases hT
    obtain ⟨b, o, A', c', e1, hb, _, h1, hr⟩ := h.row hT
    have HY := Lib.hid (fun (w' : World) (hS : Since w w') => (show TabP9 TT s w (.returned (.tuple #[.slice A' T.data.length c', .bool true])) w' from ⟨A', T.data.length, c', by rw [hh], by rw [hd], by rw [hd]; exact RdG.on hr hS, hS⟩))
    rw [hi] at HF
    generalize T.data.length = l at *
    have hj1 : (j : Int) < n := by omega
    have hj0 : ¬ (j : Int) < 0 := by omega
    have hj2 : (0 : Int) ≤ (j : Int) := by omega
    clear h hh hd hi hL hT heq hf hr
    subst e1
    go_enter Tryz.func28, Tryz.ntmps28
    go_wp2_with (go_at_call 27; (with_reducible refine (HF.out _ (Since.refl _)).mono ?_); rintro e w2 ⟨rfl, hS2⟩; have k1 := (hS2.1 _ (o + j * 2 + 1) hb).trans h1; have hb2 := hS2.2.2.1 _ hb)
    go_ret2
    exact HY.out _ hS2
def plT (GG : List (List Int)) (j : Nat) : List Int := (List.range (j + 1)).map (pl9 GG)
theorem plT_next (GG : List (List Int)) (j : Nat) : plT GG (j + 1) = plT GG j ++ [pl9 GG (j + 1)] := by
  unfold plT
  rw [List.range_succ, List.map_append]; rfl
theorem plT_len (GG : List (List Int)) (j : Nat) : (plT GG j).length = j + 1 := by unfold plT; simp
theorem plT_at (GG : List (List Int)) (j : Nat) : (plT GG j)[j]? = some (pl9 GG j) := by
  unfold plT
  rw [List.getElem?_map, List.getElem?_range (by omega)]; rfl
theorem rdi_at {w : World} {B : Nat} {A : Option Addr} {L : List Int} {j : Nat} {x : Int} (h : RdI w B A L) (hj : L[j]? = some x) : ∃ b o, A = some ⟨b, o, none⟩ ∧ b < B ∧ w.cell? ⟨b, o + j, none⟩ = some (.int .i64 x) := by
  have hl : j < L.length := by
    rcases Nat.lt_or_ge j L.length with h | h
    · exact h
    · rw [List.getElem?_eq_none h] at hj; cases hj
  obtain ⟨b, o, e, hb, hc⟩ := h (by omega)
  have := hc j x hj 0 (by omega)
  rw [Nat.mul_one, Nat.add_zero] at this
  exact ⟨b, o, e, hb, this⟩
set_option maxRecDepth 1000000 in
set_option maxHeartbeats 16000000 in
theorem rf_places9 (x : Fh) (F : Fn9) (C : Array Value) (hC : CV x F C) (w : World) (hR : FnR w w.heap.size x F) (hG : NoGr F) :
    Calls Tryz.prog 13 #[.agg C] w fun e w' => ∃ A c, e = .returned (.slice A (F.GG.length + 1) c) ∧ RdI w' w'.heap.size A (plA F.GG) ∧ Since w w' := by
  obtain ⟨xAt, xct, xAm, xcm, xAg, xcg⟩ := x
  have hR : RdBL w w.heap.size xAg F.GG := hR.glys
  obtain ⟨N, hN⟩ : ∃ N, N = F.GG.length := ⟨_, rfl⟩
  have hg : N ≤ 1100 := by rw [hN]; exact hG.glys
  have hsm := hG.sumG
  have HBX := Lib.hid (fun (t : TypeId) => (fn_box (x := ⟨xAt, xct, xAm, xcm, xAg, xcg⟩) (nt := F.TT.length) (h := F.h) (m := F.m) (nm := F.MM.length) (ct := F.ct) (ng := F.GG.length) w w.heap.size rfl t))
  unfold CV at hC
  have HC := Lib.hid hC
  rw [← hN]
  have HN := Lib.hid hN
  have HSM := Lib.hid hsm
  have hNI : (N : Int) ≤ 1100 := by omega
  have HR := Lib.hid hR
  clear hC hN hsm hG hR
  go_enter Tryz.func13, Tryz.ntmps13
  go_upto_region 1 with fail
  refine wp_named fun w1 hw1 => ?_
  have hS1 : Since w w1 := by subst hw1; (repeat (first | with_reducible (exact Since.refl _) | with_reducible assumption | with_reducible (refine Since.drew ?_) | with_reducible (refine Since.drewN ?_ _) | with_reducible (refine Since.alloc ?_ _) | (with_reducible (refine Since.setCell ?_ ?_ _); rotate_left; focus (first | (simp; done) | (simp; omega) | omega)) | (with_reducible (refine Since.trans ?_ (by with_reducible assumption)))))
  have hB1 : BoxL w1 w.heap.size C.toList := by subst hw1; rw [HC.out]; exact HBX.out _
  have hb0 : w.heap.size < w1.heap.size := hB1.lt
  have c16 : w1.cell? ⟨w.heap.size, 16, none⟩ = some (.slice xAg N xcg) := by rw [HN.out]; exact hB1.cell 16 (by rw [HC.out]; rfl)
  have HO0 : Hid (OwnI (w1.alloc (.cells #[.int .i64 0] 3)) w.heap.size (.slice (some ⟨w1.heap.size, 0, none⟩) 1 1) (plT F.GG 0)) := Lib.hid (by
    have e : plT F.GG 0 = [0] := by unfold plT; simp [pl9_zero]
    rw [e]; exact ownI_new w1 w.heap.size w1.heap.size 1 rfl (Nat.le_of_lt hb0) #[.int .i64 0] [0] rfl rfl (by simp))
  clear hw1 HBX hB1
  go_wp2_with fail
  go_loopw [3, 10] (fun z y wr => ∃ (j : Nat) (A : Option Addr) (c : Nat), j ≤ N ∧ y = .int .i64 (j : Int) ∧ z = .slice A (j + 1) c ∧ OwnI wr w.heap.size (.slice A (j + 1) c) (plT F.GG j) ∧ Since w wr) (fun _ y _ => N - (intOf y).toNat)
  case atStart => exact ⟨0, _, _, by omega, rfl, rfl, HO0.out, by (repeat (first | with_reducible (exact Since.refl _) | with_reducible assumption | with_reducible (refine Since.drew ?_) | with_reducible (refine Since.drewN ?_ _) | with_reducible (refine Since.alloc ?_ _) | (with_reducible (refine Since.setCell ?_ ?_ _); rotate_left; focus (first | (simp; done) | (simp; omega) | omega)) | (with_reducible (refine Since.trans ?_ (by with_reducible assumption)))))⟩
  case round =>
    obtain ⟨j, A, c, hj, rfl, rfl, hO, hS⟩ := hrel
    clear HO0 c16
    by_cases hjn : j < N
    · have hjL : j < F.GG.length := by rw [← HN.out]; exact hjn
      have hT : F.GG[j]? = some F.GG[j] := List.getElem?_eq_getElem hjL
      obtain ⟨b, o, A', c', e1, hb, hc, hlc, _⟩ := (HR.out.on hS).row hT
      have hj1 : (j : Int) < N := by omega
      obtain ⟨A2, c2, e2, _, hrI⟩ := OwnG.rd (by omega) inL_len hO
      injection e2 with e2 _ _
      rw [← e2] at hrI
      obtain ⟨b2, o2, e3, hb2, k2⟩ := rdi_at hrI (plT_at F.GG j)
      have hnx := pl9_next hT
      have hple := pl9_le F.GG j
      have hple2 := pl9_le F.GG (j + 1)
      have hsmm := HSM.out
      have HNX := Lib.hid (show plT F.GG (j + 1) = plT F.GG j ++ [pl9 F.GG j + (F.GG[j].length : Int)] by rw [plT_next, hnx])
      have HPL := Lib.hid (plT_len F.GG j)
      have HPL2 := Lib.hid (plT_len F.GG (j + 1))
      generalize F.GG[j] = L at *
      generalize hl : L.length = l at *
      subst e1 e3
      have u1 : IntKind.i64.wrap ((j : Int) + 1) = (j : Int) + 1 := IntWalk.i64_in _ (by omega)
      have hp0 : 0 ≤ pl9 F.GG j := hple.1
      have hsuml : pl9 F.GG j + (l : Int) ≤ 140737488355328 := by omega
      generalize pl9 F.GG j = p at *
      have u2 : IntKind.i64.wrap (p + (l : Int)) = p + (l : Int) := by rw [IntKind.wrap_i64]; omega
      have hjj : (j : Int) < ((j + 1 : Nat) : Int) := by omega
      have hjp : (0 : Int) ≤ (j : Int) := by omega
      have HO := Lib.hid hO
      clear hO hT hnx hple hple2 hjL hsmm hrI e2
      go_wp2_with (first | (at_builtin; refine wpList_append_i rfl _ _ rfl _ hS (.slice (some ⟨b2, o2, none⟩) (j + 1) c) _ rfl (by first | exact HO.out | exact HO.out.drew | exact HO.out.drewN _) _ _ (p + (l : Int)) rfl rfl (by rw [HPL.out]; omega) ?_; intro v5 w5 hO5 hg5 hb5 hS5; obtain ⟨A5, c5, rfl, hc5, hr5⟩ := OwnG.rd (by omega) inL_len hO5; clear hg5 hb5 hr5))
      go_roundw
      case rel => first | exact ⟨j + 1, A5, c5, by omega, by first | rfl | go_num | simp, by first | rfl | (simp [HPL.out]), by rw [HNX.out]; first | exact hO5 | (simp [HPL.out] at hO5; exact hO5), hS5⟩ | ((repeat apply Exists.intro); refine ⟨?_, rfl⟩; exact ⟨j + 1, A5, c5, by omega, by first | rfl | go_num | simp, by first | rfl | (simp [HPL.out]), by rw [HNX.out]; first | exact hO5 | (simp [HPL.out] at hO5; exact hO5), hS5⟩)
      case measure => simp [intOf]; omega
    · obtain rfl : j = N := by omega
      have hjn' : ¬ (j : Int) < (j : Int) := by omega
      have e : plT F.GG j = plA F.GG := by unfold plT plA; rw [HN.out]
      rw [e] at hO
      have hrI := ownI_rd hO
      clear hO
      go_wp2_with fail
      go_ret

      first | exact ⟨_, _, rfl, hrI, hS⟩ | exact ⟨A, ⟨c, rfl⟩, hrI, hS⟩ | exact ⟨A, hrI, hS⟩ | exact ⟨A, ⟨c, by simp⟩, hrI, hS⟩
end Go.Proofs.YteckkcpnfeoehaaGreatDoor

/-
  Layer 9: the document's Sync, walked.
-/
namespace Go.Proofs.YteckkcpnfeoehaaGreatDoor
set_option maxRecDepth 100000
open Go.RowKit Go.ChangeShapes Go.WideShapes Go.Deep
set_option linter.unusedVariables false
set_option linter.unusedSimpArgs false

theorem fb_load_g {w : World} {b : Nat} {y : Fh} {F : Fn9} {C : Array Value} {ops : Array Oper} {rest : List Oper} {op : Oper} {a : Act} {Q : Exit → Act → World → Prop} (hw : Region.wanted op (yielded ops a.tmps) = true) (x : Operand) (ho : op.op = .load 30 x) (hx : a.eval x = .pointer (some ⟨b, 0, none⟩)) (hB : FB w b y F) (hC : CV y F C) (hk : wpList Tryz.prog ops Q rest (a.put op.dst (.agg C)) w) : wpList Tryz.prog ops Q (op :: rest) a w :=
  wpList_step fun K hK => by
    rw [if_pos hw]
    refine wp_load_mid _ x ho b 0 hx _ _ hB.1 Tryz.underlying30 rfl infoFn (hK _ _ ?_)
    have := hk; rw [hC] at this; exact this
theorem FnO.nighQ {w w' : World} {base base2 q nt nm ng : Nat} {y z : Fh} {F : Fn9} {H : Hd9} {M : Mx9} {K : Int} (h : FnO w base y F) (hQ : FnQ w q z nt H M nm K ng base2) (k : Nigh q w w') : FnO w' base y F := ⟨hQ.keepT k h.t, hQ.keepG k h.m (by decide), hQ.keepBL k h.g⟩
/-- A copy that is worked on, the font that came in beside it. -/
structure RyS (w wx : World) (x : Fh) (F : Fn9) (q : Nat) (y : Fh) (G : Fn9) : Prop where
  s : Since w wx
  a : FB wx w.heap.size x F
  r : BoxL wx (w.heap.size + 1) (fnC zX 0 zH zM 0 0 0)
  b : FnQ wx q y G.TT.length G.h G.m G.MM.length G.ct G.GG.length (w.heap.size + 2)
  o : FnO wx (w.heap.size + 2) y G
section
variable {w wx wy : World} {x y : Fh} {F G : Fn9} {q : Nat}
theorem RyS.since (h : RyS w wx x F q y G) (k : Since wx wy) : RyS w wy x F q y G := ⟨h.s.trans k, h.a.since k, h.r.since k, h.b.since k, h.o.since k⟩
theorem RyS.lo (h : RyS w wx x F q y G) : w.heap.size + 2 ≤ q := h.b.2.2
theorem RyS.lt (h : RyS w wx x F q y G) : q < wx.heap.size := h.b.1.lt
theorem RyS.rd (h : RyS w wx x F q y G) : FnR wx wx.heap.size y G := h.o.rd.1
theorem RyS.box (h : RyS w wx x F q y G) : FB wx q y G := h.b.1
theorem RyS.set (h : RyS w wx x F q y G) {G' : Fn9} (j : Nat) (v : Value) (e1 : G'.TT = G.TT) (e2 : G'.MM = G.MM) (e3 : G'.GG = G.GG) (e : fnC y G'.TT.length G'.h G'.m G'.MM.length G'.ct G'.GG.length = (fnC y G.TT.length G.h G.m G.MM.length G.ct G.GG.length).set j v) : RyS w (wx.setCell ⟨q, j, none⟩ v) x F q y G' := by
  have k := h.b.nigh j v
  have hl := h.lo
  have ho := h.o.nighQ h.b k
  refine ⟨k.2 w h.s (by omega), BoxL.nigh h.a k (by omega), h.r.nigh k (by omega), ⟨by rw [e]; exact h.b.1.set j v, typed_set h.b.2.1, h.b.2.2⟩, ⟨?_, ?_, ?_⟩⟩
  · rw [e1]; exact ho.t
  · rw [e2]; exact ho.m
  · rw [e3]; exact ho.g
end
theorem three_no {TT : List Tb} {b0 b1 b2 : Bool} (h0 : has9 TT tgHead = b0) (h1 : has9 TT tgMaxp = b1) (h2 : has9 TT tgHhea = b2) : three9 TT = (b0 && b1 && b2) := by unfold three9; rw [h0, h1, h2]
end Go.Proofs.YteckkcpnfeoehaaGreatDoor
