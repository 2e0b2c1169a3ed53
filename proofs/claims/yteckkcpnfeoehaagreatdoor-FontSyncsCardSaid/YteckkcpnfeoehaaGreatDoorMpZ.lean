/-
  Texts of this seat, put together: each with its own head.
-/
import Derived.Test.YteckkcpnfeoehaaGreatDoorFoI
import Derived.Test.YteckkcpnfeoehaaGreatDoorMpI
import Derived.Test.YteckkcpnfeoehaaGreatDoorMpO
import Derived.Test.YteckkcpnfeoehaaGreatDoorMpU

/-
  Layer 9: the document's Places and table; what its layers 5 and 6 put, of lists.
-/
namespace Go.Proofs.YteckkcpnfeoehaaGreatDoor
set_option maxRecDepth 100000
open Go.RowKit Go.ChangeShapes Go.WideShapes Go.Deep
set_option linter.unusedVariables false
set_option linter.unusedSimpArgs false

theorem rf_puthead9 (A : Option Addr) (c n : Nat) (L : List Int) (h : Hd9) (w : World) (hr : RdB w w.heap.size A L) (hn : n = L.length) (hi : In64 h.em ∧ In64 h.a ∧ In64 h.b ∧ In64 h.c ∧ In64 h.d) (hx : L.length ≤ 140737488355328) (E : Int) (hE : phEL L h = E) :
    Calls Tryz.prog 50 #[.slice A n c, .agg #[.int .i64 h.em, .int .i64 h.a, .int .i64 h.b, .int .i64 h.c, .int .i64 h.d, .bool h.l]] w fun e w' => ∃ A' n' c', e = .returned (.tuple #[.slice A' n' c', .int .i64 E]) ∧ (E = 0 → n' = (phB L h).length ∧ ∀ q, q < w.heap.size → RdN w' 0 q A' (phB L h)) ∧ Since w w' := by
  subst hn
  refine (rf_puthead A L.length c (fnL L) h.em h.a h.b h.c h.d h.l w (rdb_rd hr) hi.1 hi.2.1 hi.2.2.1 hi.2.2.2.1 hi.2.2.2.2 hx).mono ?_
  rintro e w' ⟨A', c', rfl, hc, hN, hS⟩
  unfold phEL at hE
  rw [hE]
  refine ⟨A', _, c', rfl, fun h0 => ?_, hS⟩
  have e : phN L.length h.em h.a h.b h.c h.d = L.length := by unfold phN; rw [if_pos (by rw [hE]; exact h0)]
  rw [e] at hN ⊢
  exact ⟨(phB_len L h).symm, fun q h => nw_rdn hN (Nat.zero_le _) h⟩
theorem rf_putmaxp9 (A : Option Addr) (c n : Nat) (L : List Int) (m : Mx9) (w : World) (hr : RdB w w.heap.size A L) (hn : n = L.length) (hi : In64 m.g ∧ In64 m.p ∧ In64 m.c ∧ In64 m.q ∧ In64 m.r ∧ In64 m.e ∧ In64 m.d) (hx : L.length ≤ 140737488355328) (E : Int) (hE : mpEL L m = E) :
    Calls Tryz.prog 51 #[.slice A n c, .agg #[.int .i64 m.g, .int .i64 m.p, .int .i64 m.c, .int .i64 m.q, .int .i64 m.r, .int .i64 m.e, .int .i64 m.d]] w fun e w' => ∃ A' n' c', e = .returned (.tuple #[.slice A' n' c', .int .i64 E]) ∧ (E = 0 → n' = (mpB L m).length ∧ ∀ q, q < w.heap.size → RdN w' 0 q A' (mpB L m)) ∧ Since w w' := by
  subst hn
  refine (rf_putmaxp A L.length c (fnL L) m.g m.p m.c m.q m.r m.e m.d w (rdb_rd hr) hi.1 hi.2.1 hi.2.2.1 hi.2.2.2.1 hi.2.2.2.2.1 hi.2.2.2.2.2.1 hi.2.2.2.2.2.2 hx).mono ?_
  rintro e w' ⟨A', c', rfl, hc, hN, hS⟩
  unfold mpEL at hE
  rw [hE]
  refine ⟨A', _, c', rfl, fun h0 => ?_, hS⟩
  have e : mpN L.length (sevM m) = L.length := by unfold mpN; rw [if_pos (by rw [hE]; exact h0)]
  rw [e] at hN ⊢
  exact ⟨(mpB_len L m).symm, fun q h => nw_rdn hN (Nat.zero_le _) h⟩
theorem rf_putcount9 (A : Option Addr) (c n : Nat) (L : List Int) (x : Int) (w : World) (hr : RdB w w.heap.size A L) (hn : n = L.length) (hi : In64 x) (hx : L.length ≤ 140737488355328) (E : Int) (hE : pcEL L x = E) :
    Calls Tryz.prog 52 #[.slice A n c, .int .i64 x] w fun e w' => ∃ A' n' c', e = .returned (.tuple #[.slice A' n' c', .int .i64 E]) ∧ (E = 0 → n' = (pcB L x).length ∧ ∀ q, q < w.heap.size → RdN w' 0 q A' (pcB L x)) ∧ Since w w' := by
  subst hn
  refine (rf_putcount A L.length c (fnL L) x w (rdb_rd hr) hi hx).mono ?_
  rintro e w' ⟨A', c', rfl, hc, hN, hS⟩
  unfold pcEL at hE
  rw [hE]
  refine ⟨A', _, c', rfl, fun h0 => ?_, hS⟩
  have e : pcN L.length x = L.length := by unfold pcN; rw [if_pos (by rw [hE]; exact h0)]
  rw [e] at hN ⊢
  exact ⟨(pcB_len L x).symm, fun q h => nw_rdn hN (Nat.zero_le _) h⟩
/-- What table answers. -/
def TabP9 (TT : List Tb) (s : ByteArray) (w : World) (e : Ending) (w' : World) : Prop := ∃ A n c, e = .returned (.tuple #[.slice A n c, .bool (has9 TT s)]) ∧ n = (dat9 TT s).length ∧ RdB w' w'.heap.size A (dat9 TT s) ∧ Since w w'
set_option maxRecDepth 1000000 in
set_option maxHeartbeats 16000000 in
theorem rf_table9 (s : ByteArray) (A : Option Addr) (n c : Nat) (TT : List Tb) (w : World) (h : RdTL w w.heap.size A TT) (hL : n = TT.length) (hn : n ≤ maxLen) (hs : s.size ≤ 100) :
    Calls Tryz.prog 28 #[.slice A n c, .string s] w (TabP9 TT s w) := by
  have hn' : (n : Int) ≤ 9223372036854775807 := by simp only [maxLen] at hn; omega
  have HF := Lib.hid (fun (w2 : World) (h2 : Since w w2) => rf_find s A n c TT w2 (h.on h2) hL hn)
  have HR := Lib.hid h
  rcases has_ix TT s with ⟨hh, hno, hd⟩ | ⟨hh, j, T, hT, heq, hf, hd, hi⟩
  · have HY := Lib.hid (fun (w' : World) (hS : Since w w') => (show TabP9 TT s w (.returned (.tuple #[.slice none 0 0, .bool false])) w' from ⟨none, 0, 0, by rw [hh], by rw [hd]; rfl, by rw [hd]; exact RdG.nil, hS⟩))
    have hi : ixF (eqT s) 0 TT = -1 := ixF_none TT 0 hno
    rw [hi] at HF
    clear h hh hno hd hi hL
    go_enter Tryz.func28, Tryz.ntmps28
    go_wp2_with (go_at_call 27; (with_reducible refine (HF.out _ (Since.refl _)).mono ?_); rintro e w2 ⟨rfl, hS2⟩)
    go_ret2
    exact HY.out _ hS2
  · have hj : j < n := by
      rw [hL]
      rcases Nat.lt_or_ge j TT.length with h | h
      · exact h
      · rw [List.getElem?_eq_none h] at hT; cases hT
    obtain ⟨b, o, A', c', e1, hb, _, h1, hr⟩ := h.row hT
    have HY := Lib.hid (fun (w' : World) (hS : Since w w') => (show TabP9 TT s w (.returned (.tuple #[.slice A' T.data.length c', .bool true])) w' from ⟨A', T.data.length, c', by rw [hh], by rw [hd], by rw [hd]; exact RdG.on hr hS, hS⟩))
    rw [hi] at HF
    generalize T.data.length = l at *
    have hj1 : (j : Int) < n := by omega
    have hj0 : ¬ (j : Int) < 0 := by omega
    have hj2 : (0 : Int) ≤ (j : Int) := by omega
    clear h hh hd hi hL hT heq hf hr
    subst e1
    go_enter Tryz.func28, Tryz.ntmps28
    go_wp2_with (go_at_call 27; (with_reducible refine (HF.out _ (Since.refl _)).mono ?_); rintro e w2 ⟨rfl, hS2⟩; have k1 := (hS2.1 _ (o + j * 2 + 1) hb).trans h1; have hb2 := hS2.2.2.1 _ hb)
    go_ret2
    exact HY.out _ hS2
def plT (GG : List (List Int)) (j : Nat) : List Int := (List.range (j + 1)).map (pl9 GG)
theorem plT_next (GG : List (List Int)) (j : Nat) : plT GG (j + 1) = plT GG j ++ [pl9 GG (j + 1)] := by
  unfold plT
  rw [List.range_succ, List.map_append]; rfl
theorem plT_len (GG : List (List Int)) (j : Nat) : (plT GG j).length = j + 1 := by unfold plT; simp
theorem plT_at (GG : List (List Int)) (j : Nat) : (plT GG j)[j]? = some (pl9 GG j) := by
  unfold plT
  rw [List.getElem?_map, List.getElem?_range (by omega)]; rfl
theorem rdi_at {w : World} {B : Nat} {A : Option Addr} {L : List Int} {j : Nat} {x : Int} (h : RdI w B A L) (hj : L[j]? = some x) : ∃ b o, A = some ⟨b, o, none⟩ ∧ b < B ∧ w.cell? ⟨b, o + j, none⟩ = some (.int .i64 x) := by
  have hl : j < L.length := by
    rcases Nat.lt_or_ge j L.length with h | h
    · exact h
    · rw [List.getElem?_eq_none h] at hj; cases hj
  obtain ⟨b, o, e, hb, hc⟩ := h (by omega)
  have := hc j x hj 0 (by omega)
  rw [Nat.mul_one, Nat.add_zero] at this
  exact ⟨b, o, e, hb, this⟩
set_option maxRecDepth 1000000 in
set_option maxHeartbeats 16000000 in
theorem rf_places9 (x : Fh) (F : Fn9) (C : Array Value) (hC : CV x F C) (w : World) (hR : FnR w w.heap.size x F) (hG : NoGr F) :
    Calls Tryz.prog 13 #[.agg C] w fun e w' => ∃ A c, e = .returned (.slice A (F.GG.length + 1) c) ∧ RdI w' w'.heap.size A (plA F.GG) ∧ Since w w' := by
  obtain ⟨xAt, xct, xAm, xcm, xAg, xcg⟩ := x
  have hR : RdBL w w.heap.size xAg F.GG := hR.glys
  obtain ⟨N, hN⟩ : ∃ N, N = F.GG.length := ⟨_, rfl⟩
  have hg : N ≤ 1100 := by rw [hN]; exact hG.glys
  have hsm := hG.sumG
  have HBX := Lib.hid (fun (t : TypeId) => (fn_box (x := ⟨xAt, xct, xAm, xcm, xAg, xcg⟩) (nt := F.TT.length) (h := F.h) (m := F.m) (nm := F.MM.length) (ct := F.ct) (ng := F.GG.length) w w.heap.size rfl t))
  unfold CV at hC
  have HC := Lib.hid hC
  rw [← hN]
  have HN := Lib.hid hN
  have HSM := Lib.hid hsm
  have hNI : (N : Int) ≤ 1100 := by omega
  have HR := Lib.hid hR
  clear hC hN hsm hG hR
  go_enter Tryz.func13, Tryz.ntmps13
  go_upto_region 1 with fail
  refine wp_named fun w1 hw1 => ?_
  have hS1 : Since w w1 := by subst hw1; (repeat (first | with_reducible (exact Since.refl _) | with_reducible assumption | with_reducible (refine Since.drew ?_) | with_reducible (refine Since.drewN ?_ _) | with_reducible (refine Since.alloc ?_ _) | (with_reducible (refine Since.setCell ?_ ?_ _); rotate_left; focus (first | (simp; done) | (simp; omega) | omega)) | (with_reducible (refine Since.trans ?_ (by with_reducible assumption)))))
  have hB1 : BoxL w1 w.heap.size C.toList := by subst hw1; rw [HC.out]; exact HBX.out _
  have hb0 : w.heap.size < w1.heap.size := hB1.lt
  have c16 : w1.cell? ⟨w.heap.size, 16, none⟩ = some (.slice xAg N xcg) := by rw [HN.out]; exact hB1.cell 16 (by rw [HC.out]; rfl)
  have HO0 : Hid (OwnI (w1.alloc (.cells #[.int .i64 0] 3)) w.heap.size (.slice (some ⟨w1.heap.size, 0, none⟩) 1 1) (plT F.GG 0)) := Lib.hid (by
    have e : plT F.GG 0 = [0] := by unfold plT; simp [pl9_zero]
    rw [e]; exact ownI_new w1 w.heap.size w1.heap.size 1 rfl (Nat.le_of_lt hb0) #[.int .i64 0] [0] rfl rfl (by simp))
  clear hw1 HBX hB1
  go_wp2_with fail
  go_loopw [3, 10] (fun z y wr => ∃ (j : Nat) (A : Option Addr) (c : Nat), j ≤ N ∧ y = .int .i64 (j : Int) ∧ z = .slice A (j + 1) c ∧ OwnI wr w.heap.size (.slice A (j + 1) c) (plT F.GG j) ∧ Since w wr) (fun _ y _ => N - (intOf y).toNat)
  case atStart => exact ⟨0, _, _, by omega, rfl, rfl, HO0.out, by (repeat (first | with_reducible (exact Since.refl _) | with_reducible assumption | with_reducible (refine Since.drew ?_) | with_reducible (refine Since.drewN ?_ _) | with_reducible (refine Since.alloc ?_ _) | (with_reducible (refine Since.setCell ?_ ?_ _); rotate_left; focus (first | (simp; done) | (simp; omega) | omega)) | (with_reducible (refine Since.trans ?_ (by with_reducible assumption)))))⟩
  case round =>
    obtain ⟨j, A, c, hj, rfl, rfl, hO, hS⟩ := hrel
    clear HO0 c16
    by_cases hjn : j < N
    · have hjL : j < F.GG.length := by rw [← HN.out]; exact hjn
      have hT : F.GG[j]? = some F.GG[j] := List.getElem?_eq_getElem hjL
      obtain ⟨b, o, A', c', e1, hb, hc, hlc, _⟩ := (HR.out.on hS).row hT
      have hj1 : (j : Int) < N := by omega
      obtain ⟨A2, c2, e2, _, hrI⟩ := OwnG.rd (by omega) inL_len hO
      injection e2 with e2 _ _
      rw [← e2] at hrI
      obtain ⟨b2, o2, e3, hb2, k2⟩ := rdi_at hrI (plT_at F.GG j)
      have hnx := pl9_next hT
      have hple := pl9_le F.GG j
      have hple2 := pl9_le F.GG (j + 1)
      have hsmm := HSM.out
      have HNX := Lib.hid (show plT F.GG (j + 1) = plT F.GG j ++ [pl9 F.GG j + (F.GG[j].length : Int)] by rw [plT_next, hnx])
      have HPL := Lib.hid (plT_len F.GG j)
      have HPL2 := Lib.hid (plT_len F.GG (j + 1))
      generalize F.GG[j] = L at *
      generalize hl : L.length = l at *
      subst e1 e3
      have u1 : IntKind.i64.wrap ((j : Int) + 1) = (j : Int) + 1 := IntWalk.i64_in _ (by omega)
      have hp0 : 0 ≤ pl9 F.GG j := hple.1
      have hsuml : pl9 F.GG j + (l : Int) ≤ 140737488355328 := by omega
      generalize pl9 F.GG j = p at *
      have u2 : IntKind.i64.wrap (p + (l : Int)) = p + (l : Int) := by rw [IntKind.wrap_i64]; omega
      have hjj : (j : Int) < ((j + 1 : Nat) : Int) := by omega
      have hjp : (0 : Int) ≤ (j : Int) := by omega
      have HO := Lib.hid hO
      clear hO hT hnx hple hple2 hjL hsmm hrI e2
      go_wp2_with (first | (at_builtin; refine wpList_append_i rfl _ _ rfl _ hS (.slice (some ⟨b2, o2, none⟩) (j + 1) c) _ rfl (by first | exact HO.out | exact HO.out.drew | exact HO.out.drewN _) _ _ (p + (l : Int)) rfl rfl (by rw [HPL.out]; omega) ?_; intro v5 w5 hO5 hg5 hb5 hS5; obtain ⟨A5, c5, rfl, hc5, hr5⟩ := OwnG.rd (by omega) inL_len hO5; clear hg5 hb5 hr5))
      go_roundw
      case rel => first | exact ⟨j + 1, A5, c5, by omega, by first | rfl | go_num | simp, by first | rfl | (simp [HPL.out]), by rw [HNX.out]; first | exact hO5 | (simp [HPL.out] at hO5; exact hO5), hS5⟩ | ((repeat apply Exists.intro); refine ⟨?_, rfl⟩; exact ⟨j + 1, A5, c5, by omega, by first | rfl | go_num | simp, by first | rfl | (simp [HPL.out]), by rw [HNX.out]; first | exact hO5 | (simp [HPL.out] at hO5; exact hO5), hS5⟩)
      case measure => simp [intOf]; omega
    · obtain rfl : j = N := by omega
      have hjn' : ¬ (j : Int) < (j : Int) := by omega
      have e : plT F.GG j = plA F.GG := by unfold plT plA; rw [HN.out]
      rw [e] at hO
      have hrI := ownI_rd hO
      clear hO
      go_wp2_with fail
      go_ret

      first | exact ⟨_, _, rfl, hrI, hS⟩ | exact ⟨A, ⟨c, rfl⟩, hrI, hS⟩ | exact ⟨A, hrI, hS⟩ | exact ⟨A, ⟨c, by simp⟩, hrI, hS⟩
end Go.Proofs.YteckkcpnfeoehaaGreatDoor

/-
  Layer 9: the document's Sync, walked.
-/
namespace Go.Proofs.YteckkcpnfeoehaaGreatDoor
set_option maxRecDepth 100000
open Go.RowKit Go.ChangeShapes Go.WideShapes Go.Deep
set_option linter.unusedVariables false
set_option linter.unusedSimpArgs false

theorem fb_load_g {w : World} {b : Nat} {y : Fh} {F : Fn9} {C : Array Value} {ops : Array Oper} {rest : List Oper} {op : Oper} {a : Act} {Q : Exit → Act → World → Prop} (hw : Region.wanted op (yielded ops a.tmps) = true) (x : Operand) (ho : op.op = .load 30 x) (hx : a.eval x = .pointer (some ⟨b, 0, none⟩)) (hB : FB w b y F) (hC : CV y F C) (hk : wpList Tryz.prog ops Q rest (a.put op.dst (.agg C)) w) : wpList Tryz.prog ops Q (op :: rest) a w :=
  wpList_step fun K hK => by
    rw [if_pos hw]
    refine wp_load_mid _ x ho b 0 hx _ _ hB.1 Tryz.underlying30 rfl infoFn (hK _ _ ?_)
    have := hk; rw [hC] at this; exact this
theorem fb_store3 {w : World} {b base : Nat} {y : Fh} {G : Fn9} {C : Array Value} {ops : Array Oper} {rest : List Oper} {op : Oper} {a : Act} {Q : Exit → Act → World → Prop} (hgd : op.guard = none) (p z : Operand) (ho : op.op = .store 30 p z) (hx : a.eval p = .pointer (some ⟨b, 0, none⟩)) (hB : FnBox w b base) (hC : CV y G C) (hz : a.eval z = .agg C)
    (hk : ∀ w', FnQ w' b y G.TT.length G.h G.m G.MM.length G.ct G.GG.length base → Nigh b w w' → wpList Tryz.prog ops Q rest (a.put op.dst undef) w') : wpList Tryz.prog ops Q (op :: rest) a w := by
  have hz' : a.eval z = .agg (fnC y G.TT.length G.h G.m G.MM.length G.ct G.GG.length).toArray := hz.trans (congrArg Value.agg hC)
  have e : (fnC y G.TT.length G.h G.m G.MM.length G.ct G.GG.length).toArray.size = (fnC y G.TT.length G.h G.m G.MM.length G.ct G.GG.length).length := by simp
  refine wpList_store_mid hgd _ p z ho b 0 (fnC y G.TT.length G.h G.m G.MM.length G.ct G.GG.length).toArray hx hz' (hB.box.there (by rw [e, fnC_len, fnC_len]; omega)) (by rw [infoFn]; rfl) (fnC_one _ _ _ _ _ _ _) ?_
  have h2 := hk (w.setCells b 0 (fnC y G.TT.length G.h G.m G.MM.length G.ct G.GG.length)) (hB.put _ rfl) (nigh_setCells b _ 0 (Nigh.refl b w))
  simpa using h2
theorem FnO.nighQ {w w' : World} {base base2 q nt nm ng : Nat} {y z : Fh} {F : Fn9} {H : Hd9} {M : Mx9} {K : Int} (h : FnO w base y F) (hQ : FnQ w q z nt H M nm K ng base2) (k : Nigh q w w') : FnO w' base y F := ⟨hQ.keepT k h.t, hQ.keepG k h.m (by decide), hQ.keepBL k h.g⟩
/-- A copy that is worked on, the font that came in beside it. -/
structure RyS (w wx : World) (x : Fh) (F : Fn9) (q : Nat) (y : Fh) (G : Fn9) : Prop where
  s : Since w wx
  a : FB wx w.heap.size x F
  r : BoxL wx (w.heap.size + 1) (fnC zX 0 zH zM 0 0 0)
  b : FnQ wx q y G.TT.length G.h G.m G.MM.length G.ct G.GG.length (w.heap.size + 2)
  o : FnO wx (w.heap.size + 2) y G
section
variable {w wx wy : World} {x y : Fh} {F G : Fn9} {q : Nat}
theorem RyS.since (h : RyS w wx x F q y G) (k : Since wx wy) : RyS w wy x F q y G := ⟨h.s.trans k, h.a.since k, h.r.since k, h.b.since k, h.o.since k⟩
theorem RyS.lo (h : RyS w wx x F q y G) : w.heap.size + 2 ≤ q := h.b.2.2
theorem RyS.lt (h : RyS w wx x F q y G) : q < wx.heap.size := h.b.1.lt
theorem RyS.rd (h : RyS w wx x F q y G) : FnR wx wx.heap.size y G := h.o.rd.1
theorem RyS.box (h : RyS w wx x F q y G) : FB wx q y G := h.b.1
theorem RyS.set (h : RyS w wx x F q y G) {G' : Fn9} (j : Nat) (v : Value) (e1 : G'.TT = G.TT) (e2 : G'.MM = G.MM) (e3 : G'.GG = G.GG) (e : fnC y G'.TT.length G'.h G'.m G'.MM.length G'.ct G'.GG.length = (fnC y G.TT.length G.h G.m G.MM.length G.ct G.GG.length).set j v) : RyS w (wx.setCell ⟨q, j, none⟩ v) x F q y G' := by
  have k := h.b.nigh j v
  have hl := h.lo
  have ho := h.o.nighQ h.b k
  refine ⟨k.2 w h.s (by omega), BoxL.nigh h.a k (by omega), h.r.nigh k (by omega), ⟨by rw [e]; exact h.b.1.set j v, typed_set h.b.2.1, h.b.2.2⟩, ⟨?_, ?_, ?_⟩⟩
  · rw [e1]; exact ho.t
  · rw [e2]; exact ho.m
  · rw [e3]; exact ho.g
theorem RyS.putT (h : RyS w wx x F q y G) {A : Option Addr} {c : Nat} {TT : List Tb} (hO : OwnT wx (w.heap.size + 2) (.slice A TT.length c) TT) : RyS w (wx.setCell ⟨q, 0, none⟩ (.slice A TT.length c)) x F q ⟨A, c, y.Am, y.cm, y.Ag, y.cg⟩ ⟨TT, G.h, G.m, G.MM, G.ct, G.GG⟩ := by
  have k := h.b.nigh 0 (.slice A TT.length c)
  have hl := h.lo
  have ho := h.o.nighQ h.b k
  exact ⟨k.2 w h.s (by omega), BoxL.nigh h.a k (by omega), h.r.nigh k (by omega), ⟨fn_put0 h.b.1 A TT.length c, typed_set h.b.2.1, h.b.2.2⟩, ⟨h.b.keepT k hO, ho.m, ho.g⟩⟩
end
theorem three_no {TT : List Tb} {b0 b1 b2 : Bool} (h0 : has9 TT tgHead = b0) (h1 : has9 TT tgMaxp = b1) (h2 : has9 TT tgHhea = b2) : three9 TT = (b0 && b1 && b2) := by unfold three9; rw [h0, h1, h2]
theorem syE_no {F : Fn9} (h : three9 F.TT = false) : syE F = 8 := by unfold syE; rw [if_pos h]
theorem rf_long9 (A : Option Addr) (c n : Nat) (GG : List (List Int)) (w : World) (h : RdI w w.heap.size A (plA GG)) (hn : n = GG.length + 1) (hg : GG.length ≤ 70000) (hs : ∀ i, i < GG.length + 1 → In64 (pl9 GG i)) (y : Bool) (hy : y = (wrE false (pl9 GG) (GG.length + 1) != 0)) :
    Calls Tryz.prog 49 #[.slice A n c] w fun e w' => e = .returned (.bool y) ∧ Since w w' := by
  subst hn hy
  exact ref_long A (GG.length + 1) c (pl9 GG) w (by omega) (fun i h => hs i h) (plA_rd h)
set_option maxRecDepth 1000000 in
set_option maxHeartbeats 64000000 in
theorem rf_sync9 (x : Fh) (F : Fn9) (C : Array Value) (hC : CV x F C) (w : World) (hR : FnR w w.heap.size x F) (hG : NoGr F) (hW : FnW F) :
    Calls Tryz.prog 18 #[.agg C] w (SyncP9 F w) := by
  obtain ⟨cp1, cp2, cp3, cp4, cp5⟩ := nogr_copy hG
  have HCP : Hid (∀ w2 : World, Since w w2 → Calls Tryz.prog 7 #[.agg C] w2 fun e w' => ∃ y D, e = .returned (.agg D) ∧ CV y F D ∧ FnO w' w2.heap.size y F ∧ Since w2 w') := Lib.hid (fun (w2 : World) (h2 : Since w w2) => rf_copy9 x F C hC w2 (hR.on h2) cp1 cp2 cp3 cp4 cp5)
  clear cp1 cp2 cp3 cp4 cp5
  have HBX := Lib.hid (fun (t : TypeId) => (fn_box (x := x) (nt := F.TT.length) (h := F.h) (m := F.m) (nm := F.MM.length) (ct := F.ct) (ng := F.GG.length) w w.heap.size rfl t))
  have HC := Lib.hid (show C = (fnC x F.TT.length F.h F.m F.MM.length F.ct F.GG.length).toArray from hC)
  have HG := Lib.hid hG
  have HW := Lib.hid hW
  have hng : (F.GG.length : Int) ≤ 1100 := by have := hG.glys; omega
  have hng0 : (0 : Int) ≤ (F.GG.length : Int) := by omega
  have HPL := Lib.hid (fun (w2 : World) (h2 : Since w w2) => rf_places9 x F C hC w2 (hR.on h2) hG)
  obtain ⟨bl, hbl⟩ : ∃ bl, bl = (wrE false (pl9 F.GG) (F.GG.length + 1) != 0) := ⟨_, rfl⟩
  have HBL := Lib.hid hbl
  have HLG := Lib.hid (fun (A : Option Addr) (c : Nat) (w2 : World) (h : RdI w2 w2.heap.size A (plA F.GG)) => rf_long9 A c (F.GG.length + 1) F.GG w2 h rfl (by have := hG.glys; omega) (fun i _ => by have := pl9_le F.GG i; have := hG.sumG; unfold In64; omega) bl hbl)
  have HTB := Lib.hid (fun (s : ByteArray) (hs : s.size ≤ 100) (w2 : World) (h2 : Since w w2) => rf_table9 s x.At F.TT.length x.ct F.TT w2 (hR.on h2).tabs rfl (by have := hG.tabs; simp only [maxLen]; omega) hs)
  clear hbl hR hG hW
  go_enter Tryz.func18, Tryz.ntmps18
  go_upto_region 1 with fail
  refine wp_named fun w1 hw1 => ?_
  have hS1 : Since w w1 := by subst hw1; (repeat (first | with_reducible (exact Since.refl _) | with_reducible assumption | with_reducible (refine Since.drew ?_) | with_reducible (refine Since.drewN ?_ _) | with_reducible (refine Since.alloc ?_ _) | (with_reducible (refine Since.setCell ?_ ?_ _); rotate_left; focus (first | (simp; done) | (simp; omega) | omega)) | (with_reducible (refine Since.trans ?_ (by with_reducible assumption)))))
  have hB1 : FB w1 w.heap.size x F := by subst hw1; rw [HC.out]; exact (HBX.out _).alloc _
  have hB2 : BoxL w1 (w.heap.size + 1) (fnC zX 0 zH zM 0 0 0) := by subst hw1; exact new_fn _ (w.heap.size + 1) (by simp) _
  clear hw1 HBX HC
  have hz1 : w.heap.size + 2 ≤ w1.heap.size := hB2.lt
  go_upto_region 2 with (first | (refine fb_load rfl _ rfl (by rfl) (by with_reducible exact hB1) hC ?_) | (go_at_call 7; (with_reducible refine (HCP.out _ hS1).mono ?_); rintro e w2 ⟨y, D, rfl, hD, hO2, hS2⟩; have hS02 := hS1.trans hS2; have hB12 := hB1.since hS2; have hz2 := Nat.le_trans hz1 hS2.below.size) | (refine fb_store3 rfl _ _ rfl (by rfl) (by with_reducible exact fnbox_new w2 hz2) hD (by rfl) ?_; intro w3 hQ3 hN3))
  obtain ⟨q, hq⟩ : ∃ q, q = w2.heap.size := ⟨_, rfl⟩
  rw [← hq] at hQ3 hN3 ⊢
  have hk23 : Since w2 w3 := hN3.2 w2 ((Since.refl w2).alloc _) (by omega)
  have hY3 : RyS w w3 x F q y F := ⟨hS02.trans hk23, hB12.since hk23, (hB2.since hS2).since hk23, hQ3, (hO2.low hz1).since hk23⟩
  clear hB1 hB2 hB12 hO2 hS2 hS02 hN3 hz1 hS1 hk23 hQ3 hq hD hz2
  have d16 := BoxL.cell hY3.a 16 (v := .slice x.Ag F.GG.length x.cg) rfl
  have d7 := BoxL.cell hY3.box 7 (v := .int .i64 F.m.g) rfl
  have f7 := BoxL.frz hY3.box 7
  have hla := BoxL.lt hY3.a
  have hlb := hY3.lt
  have HY3 := Lib.hid hY3
  clear hY3
  go_upto_region 3 with fail
  refine wp_named fun w4 hw4 => ?_
  have hY4 : RyS w w4 x F q y ⟨F.TT, F.h, syM F, F.MM, F.ct, F.GG⟩ := by subst hw4; exact HY3.out.set 7 (.int .i64 (F.GG.length : Int)) rfl rfl rfl rfl
  clear hw4 d16 d7 f7 hla hlb HY3
  have hSY : ∀ (wx : World), RyS w wx x F q y ⟨F.TT, F.h, syM F, F.MM, F.ct, F.GG⟩ → RyS w (wx.setCell ⟨q, 6, none⟩ (.bool (F.h.l || bl))) x F q y (syG F) := fun wx h => h.set 6 _ rfl rfl rfl (by
    have e : syH F = ⟨F.h.em, F.h.a, F.h.b, F.h.c, F.h.d, F.h.l || bl⟩ := by unfold syH; rw [HBL.out]
    unfold syG; rw [e]; rfl)
  have HSY := Lib.hid hSY
  clear hSY
  have c6 := BoxL.cell hY4.a 6 (v := .bool F.h.l) rfl
  have d6 := BoxL.cell hY4.box 6 (v := .bool F.h.l) rfl
  have f6 := BoxL.frz hY4.box 6
  have hla := BoxL.lt hY4.a
  have hlb := hY4.lt
  have hA4 := hY4.a
  have hs4 := hY4.s
  have HY4 := Lib.hid hY4
  clear hY4
  go_cut [] (fun wx => RyS w wx x F q y (syG F))
  case first =>
    cases hfl : F.h.l
    · rw [hfl] at c6 d6 HSY
      go_wp2_with (first | (refine fb_load_g (by rfl) _ rfl (by rfl) (by with_reducible exact hA4) hC ?_) | (go_at_call 13; (with_reducible refine (HPL.out _ hs4).mono ?_); rintro e w5 ⟨A5, c5, rfl, hR5, hS5⟩) | (go_at_call 49; (with_reducible refine (HLG.out A5 c5 _ hR5).mono ?_); rintro e w6 ⟨rfl, hS6⟩; have hY6 := (HY4.out.since hS5).since hS6; have d6 := BoxL.cell hY6.box 6 (v := .bool F.h.l) rfl; rw [hfl] at d6; have f6 := BoxL.frz hY6.box 6; have hlb := hY6.lt; have HY6 := Lib.hid hY6; clear hY6))
      go_meet
      exact HSY.out _ HY6.out
    · rw [hfl] at c6 d6 HSY
      go_wp2_with fail
      go_meet
      exact HSY.out _ HY4.out
  case rest =>
    clear HY4 HPL HLG HSY HCP c6 d6 f6 hla hlb hA4 hs4
    obtain ⟨wq, hwq⟩ : ∃ wq, wq = wc := ⟨_, rfl⟩
    subst hwq
    have k0 := BoxL.cell hcut.a 0 (v := .slice x.At F.TT.length x.ct) rfl
    have hla := BoxL.lt hcut.a
    have hsq := hcut.s
    have HYC := Lib.hid hcut
    clear hcut
    obtain ⟨L0, hL0⟩ : ∃ L, L = dat9 F.TT tgHead := ⟨_, rfl⟩
    obtain ⟨L1, hL1⟩ : ∃ L, L = dat9 F.TT tgMaxp := ⟨_, rfl⟩
    obtain ⟨L2, hL2⟩ : ∃ L, L = dat9 F.TT tgHhea := ⟨_, rfl⟩
    have HX0 := Lib.hid (show L0.length ≤ 40000 by rw [hL0]; exact dat_len (fun T hT => (HG.out.dats T hT).1))
    have HX1 := Lib.hid (show L1.length ≤ 40000 by rw [hL1]; exact dat_len (fun T hT => (HG.out.dats T hT).1))
    have HX2 := Lib.hid (show L2.length ≤ 40000 by rw [hL2]; exact dat_len (fun T hT => (HG.out.dats T hT).1))
    obtain ⟨b0, hb0⟩ : ∃ b, has9 F.TT tgHead = b := ⟨_, rfl⟩
    obtain ⟨b1, hb1⟩ : ∃ b, has9 F.TT tgMaxp = b := ⟨_, rfl⟩
    obtain ⟨b2, hb2⟩ : ∃ b, has9 F.TT tgHhea = b := ⟨_, rfl⟩
    have H3 := Lib.hid (three_no hb0 hb1 hb2)
    have HT0 := Lib.hid (fun (w2 : World) (h2 : Since w w2) => HTB.out tgHead (by decide) w2 h2)
    have HT1 := Lib.hid (fun (w2 : World) (h2 : Since w w2) => HTB.out tgMaxp (by decide) w2 h2)
    have HT2 := Lib.hid (fun (w2 : World) (h2 : Since w w2) => HTB.out tgHhea (by decide) w2 h2)
    unfold TabP9 at HT0 HT1 HT2
    rw [← hL0, hb0] at HT0
    rw [← hL1, hb1] at HT1
    rw [← hL2, hb2] at HT2
    have HEE := Lib.hid (fun (h : three9 F.TT = true) => (show syE F = if phEL L0 (syH F) ≠ 0 then phEL L0 (syH F) else if mpEL L1 (syM F) ≠ 0 then mpEL L1 (syM F) else pcEL L2 F.ct by unfold syE; rw [h, if_neg (by simp), hL0, hL1, hL2]))
    have HST := Lib.hid (show syT F = syU F.TT (phB L0 (syH F)) (mpB L1 (syM F)) (pcB L2 F.ct) 3 by rw [hL0, hL1, hL2]; rfl)
    clear hL0 hL1 hL2 hb0 hb1 hb2 HTB
    go_upto_region 7 with (first | (go_at_call 28; first | ((with_reducible refine (HT0.out _ hsq).mono ?_); rintro e w5 ⟨A0, n0, c0, rfl, hn0, hr0, hS5⟩; have HN0 := Lib.hid hn0; clear hn0; have hs5 := hsq.trans hS5; have k0 := (hS5.1 _ 0 hla).trans k0; have hla := hS5.2.2.1 _ hla; clear hsq) | ((with_reducible refine (HT1.out _ hs5).mono ?_); rintro e w6 ⟨A1, n1, c1, rfl, hn1, hr1, hS6⟩; have HN1 := Lib.hid hn1; clear hn1; have hs6 := hs5.trans hS6; have k0 := (hS6.1 _ 0 hla).trans k0; have hla := hS6.2.2.1 _ hla; clear hs5) | ((with_reducible refine (HT2.out _ hs6).mono ?_); rintro e w7 ⟨A2, n2, c2, rfl, hn2, hr2, hS7⟩; have HN2 := Lib.hid hn2; clear hn2; have hs7 := hs6.trans hS7; clear hs6)))
    have HR0 := Lib.hid ((RdG.on hr0 hS6).on hS7)
    have HR1 := Lib.hid (RdG.on hr1 hS7)
    have HR2 := Lib.hid hr2
    have hY7 := ((HYC.out.since hS5).since hS6).since hS7
    clear hr0 hr1 hr2 hS5 hS6 hS7 HYC k0 hla hs7 HT0 HT1 HT2
    cases b0
    · have hE := Lib.hid (syE_no (by rw [H3.out]; simp))
      have hr8 := hY7.r
      have hs8 := hY7.s
      clear hY7
      go_wp2_with (refine wp_fn_store rfl _ _ rfl (by rfl) (by with_reducible exact hr8) zX 0 zH zM 0 0 0 (by rfl) ?_; intro wz hz hNz)
      refine ret_agg_tmp (P := Tryz.prog) Tryz.results18 (by rfl) hz.1 Tryz.underlying30 rfl infoFn (by rfl) rfl (sync_no hE.out (by omega) (hNz.2 w hs8 (by omega)))
    cases b1
    · have hE := Lib.hid (syE_no (by rw [H3.out]; simp))
      have hr8 := hY7.r
      have hs8 := hY7.s
      clear hY7
      go_wp2_with (refine wp_fn_store rfl _ _ rfl (by rfl) (by with_reducible exact hr8) zX 0 zH zM 0 0 0 (by rfl) ?_; intro wz hz hNz)
      refine ret_agg_tmp (P := Tryz.prog) Tryz.results18 (by rfl) hz.1 Tryz.underlying30 rfl infoFn (by rfl) rfl (sync_no hE.out (by omega) (hNz.2 w hs8 (by omega)))
    cases b2
    · have hE := Lib.hid (syE_no (by rw [H3.out]; simp))
      have hr8 := hY7.r
      have hs8 := hY7.s
      clear hY7
      go_wp2_with (refine wp_fn_store rfl _ _ rfl (by rfl) (by with_reducible exact hr8) zX 0 zH zM 0 0 0 (by rfl) ?_; intro wz hz hNz)
      refine ret_agg_tmp (P := Tryz.prog) Tryz.results18 (by rfl) hz.1 Tryz.underlying30 rfl infoFn (by rfl) rfl (sync_no hE.out (by omega) (hNz.2 w hs8 (by omega)))
    have hEE := HEE.out (by rw [H3.out]; rfl)
    obtain ⟨E0, hE0⟩ : ∃ E, E = phEL L0 (syH F) := ⟨_, rfl⟩
    obtain ⟨E1, hE1⟩ : ∃ E, E = mpEL L1 (syM F) := ⟨_, rfl⟩
    obtain ⟨E2, hE2⟩ : ∃ E, E = pcEL L2 F.ct := ⟨_, rfl⟩
    rw [← hE0, ← hE1, ← hE2] at hEE
    have HIM := (show In64 (syM F).g ∧ In64 (syM F).p ∧ In64 (syM F).c ∧ In64 (syM F).q ∧ In64 (syM F).r ∧ In64 (syM F).e ∧ In64 (syM F).d from ⟨by show In64 ((F.GG.length : Nat) : Int); unfold In64; omega, HW.out.mx.2⟩)
    have HP0 := Lib.hid (fun (w2 : World) (h2 : Since w7 w2) => rf_puthead9 A0 c0 n0 L0 (syH F) w2 (RdG.on HR0.out h2) HN0.out HW.out.hd (by have := HX0.out; omega) E0 hE0.symm)
    have HP1 := Lib.hid (fun (w2 : World) (h2 : Since w7 w2) => rf_putmaxp9 A1 c1 n1 L1 (syM F) w2 (RdG.on HR1.out h2) HN1.out HIM (by have := HX1.out; omega) E1 hE1.symm)
    have HP2 := Lib.hid (fun (w2 : World) (h2 : Since w7 w2) => rf_putcount9 A2 c2 n2 L2 F.ct w2 (RdG.on HR2.out h2) HN2.out HW.out.ct (by have := HX2.out; omega) E2 hE2.symm)
    have HEE2 := Lib.hid hEE
    have hB7 := hY7.box
    have p1 := BoxL.cell hB7 1 (v := .int .i64 (syH F).em) rfl
    have p2 := BoxL.cell hB7 2 (v := .int .i64 (syH F).a) rfl
    have p3 := BoxL.cell hB7 3 (v := .int .i64 (syH F).b) rfl
    have p4 := BoxL.cell hB7 4 (v := .int .i64 (syH F).c) rfl
    have p5 := BoxL.cell hB7 5 (v := .int .i64 (syH F).d) rfl
    have p6 := BoxL.cell hB7 6 (v := .bool (syH F).l) rfl
    have hlb := hY7.lt
    have HY7L := Lib.hid hlb
    have HY7 := Lib.hid hY7
    clear hEE hE0 hE1 hE2 HEE HIM hB7 hY7 HR0 HR1 HR2 HN0 HN1 HN2 H3
    go_upto_region 10 with (go_at_call 50; (with_reducible refine (HP0.out _ (Since.refl _)).mono ?_); rintro e w8 ⟨A0', n0', c0', rfl, hN8, hS8⟩; have HN8 := Lib.hid hN8; clear hN8)
    have hY8 := HY7.out.since hS8
    have HZ8 := Lib.hid hS8
    clear p1 p2 p3 p4 p5 p6 hlb HY7 HP0 hS8
    by_cases h0 : E0 = 0
    rotate_left
    · have hE := Lib.hid (show syE F = E0 by rw [HEE2.out]; rw [if_pos h0])
      have hne := Lib.hid h0
      have dE : (E0 != 0) = true := by simpa using h0
      have hr9 := hY8.r
      have hs9 := hY8.s
      clear h0 hY8 HN8
      go_wp2_with (refine wp_fn_store rfl _ _ rfl (by rfl) (by with_reducible exact hr9) zX 0 zH zM 0 0 0 (by rfl) ?_; intro wz hz hNz)
      refine ret_agg_tmp (P := Tryz.prog) Tryz.results18 (by rfl) hz.1 Tryz.underlying30 rfl infoFn (by rfl) rfl (sync_no hE.out hne.out (hNz.2 w hs9 (by omega)))
    obtain ⟨hn0, hr0⟩ := HN8.out h0
    have HN0 := Lib.hid hn0
    have HR0 := Lib.hid (hr0 q (by have := HY7L.out; omega))
    subst h0
    have hB7 := hY8.box
    have p7 := BoxL.cell hB7 7 (v := .int .i64 (syM F).g) rfl
    have p8 := BoxL.cell hB7 8 (v := .int .i64 (syM F).p) rfl
    have p9 := BoxL.cell hB7 9 (v := .int .i64 (syM F).c) rfl
    have p10 := BoxL.cell hB7 10 (v := .int .i64 (syM F).q) rfl
    have p11 := BoxL.cell hB7 11 (v := .int .i64 (syM F).r) rfl
    have p12 := BoxL.cell hB7 12 (v := .int .i64 (syM F).e) rfl
    have p13 := BoxL.cell hB7 13 (v := .int .i64 (syM F).d) rfl
    have hlb := hY8.lt
    have HY8L := Lib.hid hlb
    have HY8 := Lib.hid hY8
    clear hn0 hr0 HN8 hB7 hY8
    go_upto_region 13 with (go_at_call 51; (with_reducible refine (HP1.out _ HZ8.out).mono ?_); rintro e w9 ⟨A1', n1', c1', rfl, hN9, hS9⟩; have HN9 := Lib.hid hN9; clear hN9)
    have hY9 := HY8.out.since hS9
    have HZ9 := Lib.hid (HZ8.out.trans hS9)
    have HR0 := Lib.hid (RdN.since HR0.out hS9)
    clear p7 p8 p9 p10 p11 p12 p13 hlb HY8 HP1 hS9 HZ8
    by_cases h1 : E1 = 0
    rotate_left
    · have hE := Lib.hid (show syE F = E1 by rw [HEE2.out]; rw [if_neg (by simp), if_pos h1])
      have hne := Lib.hid h1
      have dE : (E1 != 0) = true := by simpa using h1
      have hr9 := hY9.r
      have hs9 := hY9.s
      clear h1 hY9 HN9
      go_wp2_with (refine wp_fn_store rfl _ _ rfl (by rfl) (by with_reducible exact hr9) zX 0 zH zM 0 0 0 (by rfl) ?_; intro wz hz hNz)
      refine ret_agg_tmp (P := Tryz.prog) Tryz.results18 (by rfl) hz.1 Tryz.underlying30 rfl infoFn (by rfl) rfl (sync_no hE.out hne.out (hNz.2 w hs9 (by omega)))
    obtain ⟨hn1, hr1⟩ := HN9.out h1
    have HN1 := Lib.hid hn1
    have HR1 := Lib.hid (hr1 q (by have := HY8L.out; omega))
    subst h1
    have hB7 := hY9.box
    have p15 := BoxL.cell hB7 15 (v := .int .i64 F.ct) rfl
    have hlb := hY9.lt
    have HY9L := Lib.hid hlb
    have HY9 := Lib.hid hY9
    clear hn1 hr1 HN9 hB7 hY9
    go_upto_region 16 with (go_at_call 52; (with_reducible refine (HP2.out _ HZ9.out).mono ?_); rintro e wa ⟨A2', n2', c2', rfl, hNa, hSa⟩; have HNa := Lib.hid hNa; clear hNa)
    have hYa := HY9.out.since hSa
    have HR0 := Lib.hid (RdN.since HR0.out hSa)
    have HR1 := Lib.hid (RdN.since HR1.out hSa)
    clear p15 hlb HY9 HP2 hSa HZ9
    by_cases h2 : E2 = 0
    rotate_left
    · have hE := Lib.hid (show syE F = E2 by rw [HEE2.out]; rw [if_neg (by simp), if_neg (by simp)])
      have hne := Lib.hid h2
      have dE : (E2 != 0) = true := by simpa using h2
      have hr9 := hYa.r
      have hs9 := hYa.s
      clear h2 hYa HNa
      go_wp2_with (refine wp_fn_store rfl _ _ rfl (by rfl) (by with_reducible exact hr9) zX 0 zH zM 0 0 0 (by rfl) ?_; intro wz hz hNz)
      refine ret_agg_tmp (P := Tryz.prog) Tryz.results18 (by rfl) hz.1 Tryz.underlying30 rfl infoFn (by rfl) rfl (sync_no hE.out hne.out (hNz.2 w hs9 (by omega)))
    obtain ⟨hn2, hr2⟩ := HNa.out h2
    have HN2 := Lib.hid hn2
    have HR2 := Lib.hid (hr2 q (by have := HY9L.out; omega))
    subst h2
    have hE := Lib.hid (show syE F = 0 by rw [HEE2.out, if_neg (by simp), if_neg (by simp)])
    have HD0 := Lib.hid (show (phB L0 (syH F)).length ≤ 40000 by rw [phB_len]; exact HX0.out)
    have HD1 := Lib.hid (show (mpB L1 (syM F)).length ≤ 40000 by rw [mpB_len]; exact HX1.out)
    have HD2 := Lib.hid (show (pcB L2 F.ct).length ≤ 40000 by rw [pcB_len]; exact HX2.out)
    have HFEW := Lib.hid (syU_few HG.out (phB L0 (syH F)) (mpB L1 (syM F)) (pcB L2 F.ct) HD0.out HD1.out HD2.out)
    clear HX0 HX1 HX2 HEE2 hn2 hr2 HNa
    generalize phB L0 (syH F) = D0 at *
    generalize mpB L1 (syM F) = D1 at *
    generalize pcB L2 F.ct = D2 at *
    have hYr : RyS w wa x F q y ⟨syU F.TT D0 D1 D2 0, syH F, syM F, F.MM, F.ct, F.GG⟩ := hYa
    clear hYa

    have hfw := HFEW.out 0
    have HWI := Lib.hid (rf_with4 y.At (syU F.TT D0 D1 D2 0).length y.ct (syU F.TT D0 D1 D2 0) tgHead A0' n0' c0' D0 _ hYr.rd.tabs rfl hfw.1 HR0.out.1 HN0.out (by have := HD0.out; omega))
    have k0 := BoxL.cell hYr.box 0 (v := .slice y.At (syU F.TT D0 D1 D2 0).length y.ct) rfl
    have hlb := hYr.lt
    have hz2 := Nat.le_trans hYr.lo (Nat.le_of_lt hYr.lt)
    have HYR := Lib.hid hYr
    have HK0 := Lib.hid (fun (w2 : World) (h2 : Since _ w2) => RdN.since HR0.out h2)
    have HK1 := Lib.hid (fun (w2 : World) (h2 : Since _ w2) => RdN.since HR1.out h2)
    have HK2 := Lib.hid (fun (w2 : World) (h2 : Since _ w2) => RdN.since HR2.out h2)
    clear hfw hYr
    go_upto_region 19 with (go_at_call 53; (with_reducible refine HWI.out.mono ?_); rintro e w9 ⟨v9, rfl, hO9, hS9⟩; obtain ⟨A9, c9, rfl, _, _⟩ := hO9.rd; have hY9 := HYR.out.since hS9; have k9 := BoxL.cell hY9.box 0 (v := .slice y.At (syU F.TT D0 D1 D2 0).length y.ct) rfl; have f9 := BoxL.frz hY9.box 0; have l9 := hY9.lt; have HY9 := Lib.hid hY9; have HO9 := Lib.hid (OwnT.low (base' := w.heap.size + 2) hO9 hz2); have HS9 := Lib.hid hS9; clear hY9 hO9)
    refine wp_named fun wn hwn => ?_
    have hYr : RyS w wn x F q ⟨A9, c9, y.Am, y.cm, y.Ag, y.cg⟩ ⟨syU F.TT D0 D1 D2 1, syH F, syM F, F.MM, F.ct, F.GG⟩ := by subst hwn; exact HY9.out.putT HO9.out
    have hkn : Nigh q w9 wn := by subst hwn; exact (Nigh.refl q w9).set _ _
    have HR0 := Lib.hid ((HK0.out _ HS9.out).nigh hkn (.inl rfl))
    have HR1 := Lib.hid ((HK1.out _ HS9.out).nigh hkn (.inl rfl))
    have HR2 := Lib.hid ((HK2.out _ HS9.out).nigh hkn (.inl rfl))
    clear hwn k0 hlb hz2 HYR HWI k9 f9 l9 HY9 HO9 HS9 hS9 hkn HK0 HK1 HK2
    obtain ⟨y1, hyn⟩ : ∃ z, z = (⟨A9, c9, y.Am, y.cm, y.Ag, y.cg⟩ : Fh) := ⟨_, rfl⟩
    rw [← hyn] at hYr
    clear hyn

    have hfw := HFEW.out 1
    have HWI := Lib.hid (rf_with4 y1.At (syU F.TT D0 D1 D2 1).length y1.ct (syU F.TT D0 D1 D2 1) tgMaxp A1' n1' c1' D1 _ hYr.rd.tabs rfl hfw.1 HR1.out.1 HN1.out (by have := HD1.out; omega))
    have k0 := BoxL.cell hYr.box 0 (v := .slice y1.At (syU F.TT D0 D1 D2 1).length y1.ct) rfl
    have hlb := hYr.lt
    have hz2 := Nat.le_trans hYr.lo (Nat.le_of_lt hYr.lt)
    have HYR := Lib.hid hYr
    have HK0 := Lib.hid (fun (w2 : World) (h2 : Since _ w2) => RdN.since HR0.out h2)
    have HK1 := Lib.hid (fun (w2 : World) (h2 : Since _ w2) => RdN.since HR1.out h2)
    have HK2 := Lib.hid (fun (w2 : World) (h2 : Since _ w2) => RdN.since HR2.out h2)
    clear hfw hYr
    go_upto_region 20 with (go_at_call 53; (with_reducible refine HWI.out.mono ?_); rintro e w9 ⟨v9, rfl, hO9, hS9⟩; obtain ⟨A9, c9, rfl, _, _⟩ := hO9.rd; have hY9 := HYR.out.since hS9; have k9 := BoxL.cell hY9.box 0 (v := .slice y1.At (syU F.TT D0 D1 D2 1).length y1.ct) rfl; have f9 := BoxL.frz hY9.box 0; have l9 := hY9.lt; have HY9 := Lib.hid hY9; have HO9 := Lib.hid (OwnT.low (base' := w.heap.size + 2) hO9 hz2); have HS9 := Lib.hid hS9; clear hY9 hO9)
    refine wp_named fun wn hwn => ?_
    have hYr : RyS w wn x F q ⟨A9, c9, y1.Am, y1.cm, y1.Ag, y1.cg⟩ ⟨syU F.TT D0 D1 D2 2, syH F, syM F, F.MM, F.ct, F.GG⟩ := by subst hwn; exact HY9.out.putT HO9.out
    have hkn : Nigh q w9 wn := by subst hwn; exact (Nigh.refl q w9).set _ _
    have HR0 := Lib.hid ((HK0.out _ HS9.out).nigh hkn (.inl rfl))
    have HR1 := Lib.hid ((HK1.out _ HS9.out).nigh hkn (.inl rfl))
    have HR2 := Lib.hid ((HK2.out _ HS9.out).nigh hkn (.inl rfl))
    clear hwn k0 hlb hz2 HYR HWI k9 f9 l9 HY9 HO9 HS9 hS9 hkn HK0 HK1 HK2
    obtain ⟨y2, hyn⟩ : ∃ z, z = (⟨A9, c9, y1.Am, y1.cm, y1.Ag, y1.cg⟩ : Fh) := ⟨_, rfl⟩
    rw [← hyn] at hYr
    clear hyn

    have hfw := HFEW.out 2
    have HWI := Lib.hid (rf_with4 y2.At (syU F.TT D0 D1 D2 2).length y2.ct (syU F.TT D0 D1 D2 2) tgHhea A2' n2' c2' D2 _ hYr.rd.tabs rfl hfw.1 HR2.out.1 HN2.out (by have := HD2.out; omega))
    have k0 := BoxL.cell hYr.box 0 (v := .slice y2.At (syU F.TT D0 D1 D2 2).length y2.ct) rfl
    have hlb := hYr.lt
    have hz2 := Nat.le_trans hYr.lo (Nat.le_of_lt hYr.lt)
    have HYR := Lib.hid hYr
    have HK0 := Lib.hid (fun (w2 : World) (h2 : Since _ w2) => RdN.since HR0.out h2)
    have HK1 := Lib.hid (fun (w2 : World) (h2 : Since _ w2) => RdN.since HR1.out h2)
    have HK2 := Lib.hid (fun (w2 : World) (h2 : Since _ w2) => RdN.since HR2.out h2)
    clear hfw hYr
    go_upto_region 21 with (go_at_call 53; (with_reducible refine HWI.out.mono ?_); rintro e w9 ⟨v9, rfl, hO9, hS9⟩; obtain ⟨A9, c9, rfl, _, _⟩ := hO9.rd; have hY9 := HYR.out.since hS9; have k9 := BoxL.cell hY9.box 0 (v := .slice y2.At (syU F.TT D0 D1 D2 2).length y2.ct) rfl; have f9 := BoxL.frz hY9.box 0; have l9 := hY9.lt; have HY9 := Lib.hid hY9; have HO9 := Lib.hid (OwnT.low (base' := w.heap.size + 2) hO9 hz2); have HS9 := Lib.hid hS9; clear hY9 hO9)
    refine wp_named fun wn hwn => ?_
    have hYr : RyS w wn x F q ⟨A9, c9, y2.Am, y2.cm, y2.Ag, y2.cg⟩ ⟨syU F.TT D0 D1 D2 3, syH F, syM F, F.MM, F.ct, F.GG⟩ := by subst hwn; exact HY9.out.putT HO9.out
    have hkn : Nigh q w9 wn := by subst hwn; exact (Nigh.refl q w9).set _ _
    have HR0 := Lib.hid ((HK0.out _ HS9.out).nigh hkn (.inl rfl))
    have HR1 := Lib.hid ((HK1.out _ HS9.out).nigh hkn (.inl rfl))
    have HR2 := Lib.hid ((HK2.out _ HS9.out).nigh hkn (.inl rfl))
    clear hwn k0 hlb hz2 HYR HWI k9 f9 l9 HY9 HO9 HS9 hS9 hkn HK0 HK1 HK2
    obtain ⟨y3, hyn⟩ : ∃ z, z = (⟨A9, c9, y2.Am, y2.cm, y2.Ag, y2.cg⟩ : Fh) := ⟨_, rfl⟩
    rw [← hyn] at hYr
    clear hyn

    have hb := hYr.box
    have hr : FB _ (w.heap.size + 1) zX none9 := hYr.r
    obtain ⟨C3, hC3⟩ : ∃ C3, CV y3 ⟨syU F.TT D0 D1 D2 3, syH F, syM F, F.MM, F.ct, F.GG⟩ C3 := ⟨_, rfl⟩
    have HYR := Lib.hid hYr
    clear hYr
    go_wp2_with (first | (refine fb_load rfl _ rfl (by rfl) (by with_reducible exact hb) hC3 ?_) | (refine fb_store2 rfl _ _ rfl (by rfl) (by with_reducible exact hr) hC3 (by rfl) ?_; intro wz hz hNz))
    refine ret_agg_tmp (P := Tryz.prog) Tryz.results18 (by rfl) hz.1 Tryz.underlying30 rfl infoFn (by rfl) rfl (sync_yes hE.out (hNz.2 w HYR.out.s (by omega)) (by have h9 := HYR.out.o.nigh hNz (by omega); unfold syF; rw [HST.out]; exact h9) (by rw [HST.out]) rfl rfl rfl rfl rfl)
end Go.Proofs.YteckkcpnfeoehaaGreatDoor

/-
  Layer 9: FontSyncs walked.
-/
namespace Go.Proofs.YteckkcpnfeoehaaGreatDoor
set_option maxRecDepth 100000
open Go.RowKit Go.ChangeShapes Go.WideShapes Go.Deep
set_option linter.unusedVariables false
set_option linter.unusedSimpArgs false

theorem own_pokeB {w : World} {base : Nat} {v : Value} {L : List Int} (h : OwnB w base v L) (g o : Nat) (x : Int) : ∃ L', OwnB (w.setCell ⟨g, o, none⟩ (.int .u8 x)) base v L' := by
  have h1 := h
  rcases h.2 with ⟨e, _⟩ | ⟨q, cap, cur, e, _⟩
  · exact ⟨L, OwnG.keep1 h1 (fun b hb _ => by rw [e] at hb; simp [Value.ownBlock] at hb)⟩
  · by_cases hq : q = g
    · subst hq
      rw [e] at h1 ⊢
      exact ⟨L.set o x, OwnB.put h1 o x⟩
    · refine ⟨L, OwnG.keep1 h1 (fun b hb _ => heap_setCell_other _ ⟨g, o, none⟩ b _ (fun e2 => ?_))⟩
      rw [e] at hb
      simp only [Value.ownBlock, Option.some.injEq] at hb
      exact hq (by rw [hb]; exact e2)
/-- Tables of the call's own whose headers stay, while their bytes change. -/
def PkT (w : World) (base : Nat) (v : Value) (hs : List Th) : Prop := OwnG 49 2 thL w base v hs ∧ ∀ (j : Nat) x, hs[j]? = some x → ∃ L, OwnB w base (.slice x.A x.n x.c) L
def Bt8 (w : World) (g : Nat) : Prop := ∃ cs z, w.heap[g]? = some (Obj.cells cs 5 z)
theorem pk_of {w : World} {base : Nat} {v : Value} {TT : List Tb} (h : OwnT w base v TT) (hd : ∀ T, T ∈ TT → T.data.length ≤ 40000) : ∃ hs, hs.length = TT.length ∧ PkT w base v hs ∧ ∀ (j : Nat) x, hs[j]? = some x → x.n ≤ 40000 := by
  obtain ⟨hs, hl, ho, hK⟩ := h
  have hT : ∀ (j : Nat) x, hs[j]? = some x → ∃ T, TT[j]? = some T := fun j x hj => by
    have : j < TT.length := by
      rcases Nat.lt_or_ge j hs.length with h | h
      · omega
      · rw [List.getElem?_eq_none h] at hj; cases hj
    exact ⟨_, List.getElem?_eq_getElem this⟩
  refine ⟨hs, hl, ⟨ho, fun j x hj => ?_⟩, fun j x hj => ?_⟩
  · obtain ⟨T, hT⟩ := hT j x hj
    exact ⟨_, (hK j x T hj hT).2⟩
  · obtain ⟨T, hT⟩ := hT j x hj
    obtain ⟨_, _, e, _, _⟩ := OwnG.rd (by omega) byL_len (hK j x T hj hT).2
    injection e with _ e _
    rw [e]
    exact hd T (List.mem_of_getElem? hT)
theorem PkT.since {w w' : World} {base : Nat} {v : Value} {hs : List Th} (h : PkT w base v hs) (k : Since w w') : PkT w' base v hs := ⟨h.1.since k, fun j x hj => by obtain ⟨L, hL⟩ := h.2 j x hj; exact ⟨L, hL.since k⟩⟩
theorem PkT.poke {w : World} {base : Nat} {v : Value} {hs : List Th} (h : PkT w base v hs) {g : Nat} (hg : Bt8 w g) (o : Nat) (x : Int) : PkT (w.setCell ⟨g, o, none⟩ (.int .u8 x)) base v hs := by
  obtain ⟨cs, z, hh⟩ := hg
  exact ⟨h.1.keep1 fun b hb _ => heap_setCell_other _ ⟨g, o, none⟩ b _ (fun e => own_ne h.1 hh (by decide) (by rw [hb]; exact congrArg some e)), fun j x2 hj => by obtain ⟨L, hL⟩ := h.2 j x2 hj; exact own_pokeB hL g o x⟩
theorem FnQ.poke {w : World} {q : Nat} {y : Fh} {nt : Nat} {H : Hd9} {M : Mx9} {nm : Nat} {K : Int} {ng base : Nat} (h : FnQ w q y nt H M nm K ng base) {g : Nat} (hg : Bt8 w g) (o : Nat) (x : Int) : FnQ (w.setCell ⟨g, o, none⟩ (.int .u8 x)) q y nt H M nm K ng base := by
  obtain ⟨cs, z, hh⟩ := hg
  obtain ⟨cs2, h2⟩ := h.2.1
  have hne : q ≠ g := fun e => by
    rw [e, hh] at h2
    injection h2 with h2
    injection h2 with _ e _
    exact absurd e (by decide)
  have k : Nigh g w (w.setCell ⟨g, o, none⟩ (.int .u8 x)) := (Nigh.refl g w).set _ _
  exact ⟨BoxL.nigh h.1 k hne, ⟨cs2, (k.1.2 q h.1.lt hne).trans h2⟩, h.2.2⟩
/-- The font whose tables' bytes are changed. -/
structure PkS (w0 wr : World) (q : Nat) (y : Fh) (G : Fn9) (hs : List Th) : Prop where
  s : Since w0 wr
  b : FnQ wr q y G.TT.length G.h G.m G.MM.length G.ct G.GG.length w0.heap.size
  t : PkT wr w0.heap.size (.slice y.At G.TT.length y.ct) hs
section
variable {w0 wr wx : World} {q : Nat} {y : Fh} {G : Fn9} {hs : List Th}
theorem PkS.since (h : PkS w0 wr q y G hs) (k : Since wr wx) : PkS w0 wx q y G hs := ⟨h.s.trans k, h.b.since k, h.t.since k⟩
theorem PkS.at (h : PkS w0 wr q y G hs) {gT : Nat} (hA : y.At = some ⟨gT, 0, none⟩) {j : Nat} {x : Th} (hj : hs[j]? = some x) : wr.cell? ⟨q, 0, none⟩ = some (.slice (some ⟨gT, 0, none⟩) G.TT.length y.ct) ∧ wr.cell? ⟨gT, j * 2 + 1, none⟩ = some (.slice x.A x.n x.c) ∧ gT < wr.heap.size ∧ q < wr.heap.size := by
  have h1 := h.t.1
  rw [hA] at h1
  refine ⟨?_, (th_cells h1 hj).2, h1.lt rfl |>.2, h.b.1.lt⟩
  have := BoxL.cell h.b.1 0 (v := .slice y.At G.TT.length y.ct) rfl
  rw [hA] at this
  exact this
theorem PkS.byte (h : PkS w0 wr q y G hs) {j : Nat} {x : Th} (hj : hs[j]? = some x) {k : Nat} (hk : k < x.n) : ∃ (gD : Nat) (b : Int), x.A = some ⟨gD, 0, none⟩ ∧ wr.cell? ⟨gD, k, none⟩ = some (.int .u8 b) ∧ wr.frozen? ⟨gD, k, none⟩ = false ∧ gD < wr.heap.size ∧ ∀ v : Int, PkS w0 (wr.setCell ⟨gD, k, none⟩ (.int .u8 v)) q y G hs := by
  obtain ⟨L, hL⟩ := h.t.2 j x hj
  have hL0 := hL
  have hn : x.n = L.length := by
    obtain ⟨_, _, e, _, _⟩ := OwnG.rd (by omega) byL_len hL
    injection e
  rcases hL.2 with ⟨e, h1⟩ | ⟨gD, cap, cur, e, _⟩
  · injection e with _ e _
    omega
  · injection e with e _ _
    rw [e] at hL0
    obtain ⟨hB, hlo⟩ := heap_of hL0
    obtain ⟨c1, f1⟩ := OwnB.cell hL0 k (by omega)
    have hlt : gD < wr.heap.size := by obtain ⟨cs, z, hh⟩ := hB; exact heap_lt hh
    exact ⟨gD, _, e, c1, f1, hlt, fun v => ⟨h.s.setCell (p := ⟨gD, _, none⟩) hlo _, h.b.poke hB k v, h.t.poke hB k v⟩⟩
end
theorem PkS.head {w0 wr : World} {q : Nat} {y : Fh} {G : Fn9} {hs : List Th} (h : PkS w0 wr q y G hs) : ∃ gT, 0 < hs.length → y.At = some ⟨gT, 0, none⟩ := by
  rcases h.t.1.2 with ⟨e, h1⟩ | ⟨g, cap, cur, e, _⟩
  · exact ⟨0, fun h0 => by omega⟩
  · injection e with e _ _
    exact ⟨g, fun _ => e⟩
theorem syE_three9 {F : Fn9} (h : syE F = 0) : three9 F.TT = true := by
  unfold syE at h
  cases h3 : three9 F.TT
  · rw [if_pos h3] at h; cases h
  · rfl
theorem none_nogr : NoGr none9 := ⟨by decide, (fun T hT => by cases hT), by decide, by decide, (fun L hL => by cases hL), by decide, by decide⟩
theorem sync9_nogr {F : Fn9} (hG : NoGr F) : NoGr (sync9 F).2 := by
  unfold sync9
  split
  · exact none_nogr
  · rename_i h
    exact sync_nogr hG (syE_three9 (by simpa using h))
set_option maxRecDepth 1000000 in
set_option maxHeartbeats 64000000 in
theorem walk_fontsyncs (x : Fh) (F : Fn9) (C : Array Value) (hC : CV x F C) (w : World) (hT : Tabs w) (hI : InF w x F) :
    Calls Tryz.prog 4 #[.agg C] w fun e w' => e = .returned (.bool true) ∧ Since w w' := by
  have HT := Lib.hid (fun (w2 : World) (h2 : Since w w2) => hT.since h2)
  have HGR := Lib.hid (in_great hI hC)
  have HRD := Lib.hid (fun (w2 : World) (h2 : Since w w2) => hI.rd.on h2)
  have HNU := Lib.hid hI.num
  have HBX := Lib.hid (fun (t : TypeId) => (fn_box (x := x) (nt := F.TT.length) (h := F.h) (m := F.m) (nm := F.MM.length) (ct := F.ct) (ng := F.GG.length) w w.heap.size rfl t))
  have HC := Lib.hid hC
  unfold GreatP9 at HGR
  clear hT hI
  go_enter Tryz.func4, Tryz.ntmps4
  go_upto_region 1 with fail
  refine wp_named fun w0 hw0 => ?_
  have hS0 : Since w w0 := by subst hw0; (repeat (first | with_reducible (exact Since.refl _) | with_reducible assumption | with_reducible (refine Since.drew ?_) | with_reducible (refine Since.drewN ?_ _) | with_reducible (refine Since.alloc ?_ _) | (with_reducible (refine Since.setCell ?_ ?_ _); rotate_left; focus (first | (simp; done) | (simp; omega) | omega)) | (with_reducible (refine Since.trans ?_ (by with_reducible assumption)))))
  have hB0 : FB w0 w.heap.size x F := by subst hw0; rw [HC.out]; exact HBX.out _
  clear hw0 HBX HC
  go_upto_region 5 with (first | (go_at_call 5; (with_reducible refine (alive09 _ (HT.out _ hS0)).mono ?_); rintro e w1 ⟨rfl, hS1⟩; have hS01 := hS0.trans hS1; have hB1 := hB0.since hS1) | (refine fb_load rfl _ rfl (by rfl) (by with_reducible exact hB1) hC ?_) | (go_at_call 6; (with_reducible refine (HGR.out _ hS01).mono ?_); rintro e w2 ⟨g, rfl, hng, hS2⟩; have hS02 := hS01.trans hS2; have hB2 := hB1.since hS2; have HNG := Lib.hid hng; clear hng hB0 hB1 hS1 hS2 hS0; cases g))
  rotate_left
  · go_wp2_with fail
    go_ret
    exact ⟨by first | rfl | simp, hS02⟩
  have HNR := Lib.hid (HNG.out (by first | exact trivial | rfl))
  clear HNG
  obtain ⟨cp1, cp2, cp3, cp4, cp5⟩ := nogr_copy HNR.out
  have HCP : Hid (∀ w2 : World, Since w w2 → Calls Tryz.prog 7 #[.agg C] w2 fun e w' => ∃ y D, e = .returned (.agg D) ∧ CV y F D ∧ FnO w' w2.heap.size y F ∧ Since w2 w') := Lib.hid (fun (w2 : World) (h2 : Since w w2) => rf_copy9 x F C hC w2 (HRD.out _ h2) cp1 cp2 cp3 cp4 cp5)
  clear cp1 cp2 cp3 cp4 cp5
  have HNS := Lib.hid (sync9_nogr HNR.out)
  have HSY := Lib.hid (fun (y : Fh) (D : Array Value) (hD : CV y F D) (w2 : World) (h2 : Since w w2) (hR : FnR w2 w2.heap.size y F) => fn_sync y F D hD w2 (HT.out _ h2) hR HNR.out HNU.out)
  have HRS := Lib.hid (fun (w2 : World) (h2 : Since w w2) => rf_sync9 x F C hC w2 (HRD.out _ h2) HNR.out HNU.out)
  unfold SyncP9 at HSY HRS
  obtain ⟨E, hE⟩ : ∃ E, E = (sync9 F).1 := ⟨_, rfl⟩
  obtain ⟨G, hG⟩ : ∃ G, G = (sync9 F).2 := ⟨_, rfl⟩
  rw [← hE, ← hG] at HSY HRS
  rw [← hG] at HNS
  have dE : (E != E) = false := by simp
  clear hE hG
  go_upto_region 10 with (first | (refine fb_load rfl _ rfl (by rfl) (by with_reducible exact hB6) hC ?_) | (refine fb_load rfl _ rfl (by rfl) (by with_reducible exact hB4) hD ?_) | (refine fb_load rfl _ rfl (by rfl) (by with_reducible exact hB2) hC ?_) | (go_at_call 7; (with_reducible refine (HCP.out _ hS02).mono ?_); rintro e w3 ⟨y, D, rfl, hD, hO3, hS3⟩; have hS03 := hS02.trans hS3) | (refine fb_store rfl _ _ rfl (by rfl) (by with_reducible exact new_fn w3 w3.heap.size rfl _) hD (by rfl) ?_; intro w4 hB4 hN4; have hS34 := hN4.2 w3 ((Since.refl w3).alloc _) (Nat.le_refl _); have hS04 := hS03.trans hS34; have hR4 := hO3.rd.1.on hS34) | (go_at_call 17; (with_reducible refine (HSY.out y D hD _ hS04 hR4).mono ?_); rintro e w5 ⟨z, D5, rfl, hD5, hO5, hS5⟩; have hS05 := hS04.trans hS5; have hz5 : w4.heap.size ≤ w5.heap.size := hS5.below.size) | (refine fb_store3 rfl _ _ rfl (by rfl) (by with_reducible exact fnbox_new w5 hz5) hD5 (by rfl) ?_; intro w6 hQ6 hN6; have hS56 := hN6.2 w5 ((Since.refl w5).alloc _) (Nat.le_refl _); have hS06 := hS05.trans hS56; have hO6 := hO5.since hS56; have hB6 := hB2.since ((hS3.trans hS34).trans (hS5.trans hS56))) | (go_at_call 18; (with_reducible refine (HRS.out _ hS06).mono ?_); rintro e w7 ⟨u, D7, rfl, hD7, hO7, hS7⟩) | (refine fb_store rfl _ _ rfl (by rfl) (by with_reducible exact new_fn w7 w7.heap.size rfl _) hD7 (by rfl) ?_; intro w8 hB8 hN8; have hS78 := hN8.2 w7 ((Since.refl w7).alloc _) (Nat.le_refl _); have hS68 := hS7.trans hS78; have hQ8 := hQ6.since hS68; have hO8 := hO6.since hS68; have hBz8 : FB w8 w5.heap.size z G := hQ8.1; have hRz8 := hO8.rd.1; have hRu8 := (hO7.since hS78).rd.1) | (refine fb_load_g (by rfl) _ rfl (by rfl) (by with_reducible exact hBz8) hD5 ?_) | (refine fb_load_g (by rfl) _ rfl (by rfl) (by with_reducible exact hB8) hD7 ?_) | (go_at_call 14; (with_reducible refine (same9_cv z u G D5 D7 hD5 hD7 _ hRz8 hRu8 (by have := HNS.out.tabs; simp only [maxLen]; omega) (by have := HNS.out.mets; simp only [maxLen]; omega) (by have := HNS.out.glys; simp only [maxLen]; omega)).mono ?_); rintro e w9 ⟨rfl, hS9⟩; have hS49 := (hS5.trans hS56).trans (hS68.trans hS9)))
  have hQ9 := hQ8.since hS9
  have hT9 := hO8.t.since hS9
  obtain ⟨hs, hsl, hpk, hsn⟩ := pk_of hT9 (fun T hT => (HNS.out.dats T hT).1)
  have hK9 : PkS w4 w9 w5.heap.size z G hs := ⟨hS49, hQ9, hpk⟩
  obtain ⟨gT, hgT⟩ := hK9.head
  obtain ⟨q, hq⟩ : ∃ q, q = w5.heap.size := ⟨_, rfl⟩
  rw [← hq] at hK9 ⊢
  obtain ⟨n, hn⟩ : ∃ n, n = G.TT.length := ⟨_, rfl⟩
  have hn5 : n ≤ 101 := by rw [hn]; exact HNS.out.tabs
  have k0 : w9.cell? ⟨q, 0, none⟩ = some (.slice z.At n z.ct) := by rw [hn]; exact BoxL.cell hK9.b.1 0 (v := .slice z.At G.TT.length z.ct) rfl
  have hlb := hK9.b.1.lt
  have HGT := Lib.hid hgT
  have HSN := Lib.hid hsn
  have HN := Lib.hid hn
  have HSL := Lib.hid hsl
  have HK9 := Lib.hid hK9
  have HS04 := Lib.hid hS04
  have HB4 := Lib.hid hB4
  have HR4 := Lib.hid hR4
  have HBX := Lib.hid (hB2.since (hS3.trans hS34))
  have HD := Lib.hid hD
  clear hK9 hgT hsn hn hsl hpk hT9 hQ9 hS49 hS9 hQ8 hO8 hBz8 hRz8 hRu8 hB8 hN8 hS78 hS68 hS7 hO7 hD7 hB6 hO6 hS06 hS56 hN6 hQ6 hz5 hS05 hS5 hO5 hR4 hS04 hS34 hN4 hB4 hS03 hS3 hO3 hB2 hS02 hq HSY HRS HCP
  go_wp2_with fail
  go_loopw [38] (fun v wr => ∃ j : Nat, j ≤ n ∧ v = .int .i64 (j : Int) ∧ PkS w4 wr q z G hs) (fun v _ => n - (intOf v).toNat)
  case atStart => exact ⟨0, by omega, rfl, HK9.out⟩
  case round =>
    obtain ⟨j, hj, rfl, hK⟩ := hrel
    clear k0 hlb HK9
    by_cases hjn : j < n
    · have hjn' : (j : Int) < n := by omega
      have hj0 : (0 : Int) ≤ (j : Int) := by omega
      have hjL : j < hs.length := by rw [HSL.out, ← HN.out]; exact hjn
      obtain ⟨xh, hx⟩ : ∃ xh, hs[j]? = some xh := ⟨_, List.getElem?_eq_getElem hjL⟩
      have hxn := HSN.out j xh hx
      obtain ⟨k0, k1, hl0, hl1⟩ := hK.at (HGT.out (by omega)) hx
      rw [← HN.out] at k0
      have HAT := Lib.hid (HGT.out (by omega))
      have HX := Lib.hid hx
      have HK := Lib.hid hK
      obtain ⟨m, hm⟩ : ∃ m, m = xh.n := ⟨_, rfl⟩
      rw [← hm] at k1 hxn
      have HM := Lib.hid hm
      clear hjL hx hK hm
      go_wp2_with fail
      go_loopw [48] (fun v wk => ∃ k : Nat, k ≤ m ∧ v = .int .i64 (k : Int) ∧ PkS w4 wk q z G hs) (fun v _ => m - (intOf v).toNat)
      case atStart => exact ⟨0, by omega, rfl, HK.out⟩
      case round =>
        obtain ⟨k, hk, rfl, hKk⟩ := hrel
        clear k0 k1 hl0 hl1 HK
        by_cases hkm : k < m
        · have hkm' : (k : Int) < m := by omega
          have hk0 : (0 : Int) ≤ (k : Int) := by omega
          obtain ⟨k0, k1, hl0, hl1⟩ := hKk.at HAT.out HX.out
          rw [← HN.out] at k0
          rw [← HM.out] at k1
          obtain ⟨gD, b, eA, c1, f1, hl2, hpk⟩ := hKk.byte HX.out (k := k) (by rw [← HM.out]; exact hkm)
          rw [eA] at k1
          have HPK := Lib.hid hpk
          clear hKk hpk eA
          go_upto_region 16 with fail
          go_region
          all_goals go_wp2_with fail
          go_roundw
          case measure => simp [intOf]; omega
          case rel => first | exact ⟨k + 1, by omega, by first | rfl | go_num | simp, by first | exact HPK.out _ | exact (HPK.out _).since (Since.refl _).drew⟩ | ((repeat apply Exists.intro); refine ⟨?_, rfl⟩; exact ⟨k + 1, by omega, by first | rfl | go_num | simp, by first | exact HPK.out _ | exact (HPK.out _).since (Since.refl _).drew⟩)
        · obtain rfl : m = k := by omega
          have hkm' : ¬ (m : Int) < (m : Int) := by omega
          go_wp2_with fail
          go_roundw
          case measure => simp [intOf]; omega
          case rel => first | exact ⟨j + 1, by omega, by first | rfl | go_num | simp, hKk⟩ | ((repeat apply Exists.intro); refine ⟨?_, rfl⟩; exact ⟨j + 1, by omega, by first | rfl | go_num | simp, hKk⟩)
    · obtain rfl : n = j := by omega
      have hjn' : ¬ (n : Int) < (n : Int) := by omega
      have hSw := HS04.out.trans hK.s
      have hB4 := HB4.out.since hK.s
      have hBX := HBX.out.since hK.s
      have hR4 := HR4.out.on hK.s
      have hD := HD.out
      clear hK
      go_wp2_with (first | (refine fb_load rfl _ rfl (by rfl) (by with_reducible exact hB4) hD ?_) | (refine fb_load rfl _ rfl (by rfl) (by with_reducible exact hBX) hC ?_) | (go_at_call 14; (with_reducible refine (same9_cv y x F D C hD hC _ hR4 (HRD.out _ hSw) (by have := HNR.out.tabs; simp only [maxLen]; omega) (by have := HNR.out.mets; simp only [maxLen]; omega) (by have := HNR.out.glys; simp only [maxLen]; omega)).mono ?_); rintro e wb ⟨rfl, hSb⟩; have hSwb := hSw.trans hSb))
      go_ret
      exact ⟨by first | rfl | simp, hSwb⟩
end Go.Proofs.YteckkcpnfeoehaaGreatDoor
