/-
  Layer 12: the law ExpandDeep, walked.
-/
import Derived.Test.YtcjjcjpkmjbfkaaExT
namespace Go.Proofs.Ytcjjcjpkmjbfkaa
open Go.RowKit Go.ChangeShapes Go.WideShapes Go.Deep
set_option linter.unusedVariables false
set_option linter.unusedSimpArgs false

/-- Such rows stand where another such has grown. -/
theorem OwnBL.grownB {w w' : World} {base base' : Nat} {v u : Value} {GG HH : List (List Int)} (h : OwnBL w base u GG) (hv : OwnBL w base' v HH) (hap : Apart7 v u) (hg : w.grownBy w' v.ownBlock) : OwnBL w' base u GG := by
  obtain ⟨hs, hl, ho, hK⟩ := h
  obtain ⟨ks, kl, ko, _⟩ := hv
  have hne : 25 ≠ 5 := by decide
  exact ⟨hs, hl, OwnG.grown ho hg (fun q hq e => hap q e hq), fun j x L h1 h2 => OwnG.grown (hK j x L h1 h2) hg (fun q hq e => own_apart ko (hK j x L h1 h2) hne e hq)⟩
theorem OwnBL.ltB {w : World} {base : Nat} {v : Value} {GG : List (List Int)} (h : OwnBL w base v GG) {q : Nat} (hq : v.ownBlock = some q) : q < w.heap.size := by
  obtain ⟨hs, hl, ho, hK⟩ := h
  exact (ho.lt hq).2
theorem apart_grow {w : World} {base : Nat} {v v' u : Value} {GG : List (List Int)} (h : Apart7 v u) (hu : OwnBL w base u GG) {z : Nat} (hz : w.heap.size ≤ z) (hv : v'.ownBlock = v.ownBlock ∨ v'.ownBlock = some z) : Apart7 v' u := fun q h1 h2 => by
  rcases hv with e | e
  · exact h q (by rw [← e]; exact h1) h2
  · rw [e] at h1
    injection h1 with h1
    have := hu.ltB h2
    omega
theorem apart_nil (u : Value) : Apart7 (.slice none 0 0) u := fun k hk => by cases hk
theorem part_d (w : World) (b : Nat) (hb : b = w.heap.size) (ty : TypeId) (g : Nat) : RdP8 (w.alloc (.cells #[.int .i64 (g : Int), .int .i64 0, .int .i64 0, .int .i64 16384, .int .i64 0, .int .i64 0, .int .i64 16384] ty)) (w.alloc (.cells #[.int .i64 (g : Int), .int .i64 0, .int .i64 0, .int .i64 16384, .int .i64 0, .int .i64 0, .int .i64 16384] ty)).heap.size (some ⟨b, 0, none⟩) [pP12 g] :=
  part_one w b hb ty (g : Int) 0 0 16384 0 0 16384
theorem al_d (g : Nat) (hg : g ≤ 40) (b : Nat) (w : World) (h : RdP8 w w.heap.size (some ⟨b, 0, none⟩) [pP12 g]) : Calls Try.prog 19 #[.slice (some ⟨b, 0, none⟩) 1 1, .slice none 0 0, .agg #[.int .i64 0, .int .i64 0], .agg #[.int .i64 0, .int .i64 0]] w fun e w' => ∃ A c, e = .returned (.tuple #[.slice A 16 c, .int .i64 0]) ∧ OwnB w' w.heap.size (.slice A 16 c) (dB12 g) ∧ Since w w' := by
  obtain ⟨d1, d2⟩ := dw12 ⟨g, by omega⟩
  simp only at d1 d2
  refine (rf_write8 _ 1 1 [pP12 g] none 0 0 [] 0 0 0 0 w h rfl RdG.nil rfl (by simp [maxLen]) (by simp)).mono ?_
  rintro e w' ⟨v, rfl, hO, hS⟩
  rw [d2] at hO
  obtain ⟨A, c, rfl, hc, hr⟩ := hO.rd (by omega) byL_len
  rw [dB12_len] at hO
  exact ⟨A, c, by rw [d1, dB12_len], hO, hS⟩
theorem deep_row {S : Nat} (h0 : 0 < S) (hS : S ≤ 40) (E : Int) (hE : E = if S ≤ 16 then 0 else 10) (A : Option Addr) (n c : Nat) (hn : n = S + 1) (w : World) (h : RdBL w w.heap.size A (rowL S)) : Calls Try.prog 10 #[.slice A n c, .int .i64 0] w fun e w' => ∃ A5 c5, e = .returned (.tuple #[.slice A5 0 c5, .int .i64 E]) ∧ Since w w' := by
  have hl : (rowL S).length = S + 1 := by unfold rowL; simp
  refine (ex_of A n c (rowL S) 0 w h (fun b hb => (rowL_in hS b hb).1) (fun b hb => by have := (rowL_in hS b hb).2; omega) (by omega) (by omega)).mono ?_
  rintro e w' ⟨u, rfl, hO, hS'⟩
  obtain ⟨r1, r2⟩ := row12_0 h0 hS
  by_cases h16 : S ≤ 16
  · rw [if_pos h16] at hE
    subst hE
    rw [r1 h16] at hO ⊢
    rw [if_pos rfl] at hO
    obtain ⟨A5, c5, rfl, _, hr⟩ := hO.rd
    exact ⟨A5, c5, rfl, hS'⟩
  · rw [if_neg h16] at hE
    subst hE
    rw [r2 (by omega)] at hO ⊢
    rw [if_neg (by omega)] at hO
    obtain ⟨A5, c5, rfl, _, hr⟩ := hO.rd
    exact ⟨A5, c5, rfl, hS'⟩
theorem deep_rnd {S : Nat} (h0 : 0 < S) (hS : S ≤ 40) (A : Option Addr) (n c : Nat) (hn : n = S) (t : Nat) (ht : t < S) (w : World) (h : RdBL w w.heap.size A (rndL S S)) : Calls Try.prog 10 #[.slice A n c, .int .i64 (t : Int)] w fun e w' => ∃ A5 c5, e = .returned (.tuple #[.slice A5 0 c5, .int .i64 10]) ∧ Since w w' := by
  have hl : (rndL S S).length = S := by unfold rndL; simp
  refine (ex_of A n c (rndL S S) t w h (fun b hb => (rndL_in h0 hS b hb).1) (fun b hb => by have := (rndL_in h0 hS b hb).2; omega) (by omega) (by omega)).mono ?_
  rintro e w' ⟨u, rfl, hO, hS'⟩
  have h10 := rnd12 h0 hS 17 t 0 ht (by omega)
  rw [h10] at hO ⊢
  rw [if_neg (by omega)] at hO
  obtain ⟨A5, c5, rfl, _, hr⟩ := hO.rd
  exact ⟨A5, c5, rfl, hS'⟩
def rowI (i : Nat) : List (List Int) := (List.range i).map (fun k => dB12 (k + 1))
theorem rowI_succ (i : Nat) : rowI (i + 1) = rowI i ++ [dB12 (i + 1)] := by unfold rowI; rw [List.range_succ, List.map_append]; rfl
theorem rndL_succ (S i : Nat) : rndL S (i + 1) = rndL S i ++ [dB12 ((i + 1) % S)] := by unfold rndL; rw [List.range_succ, List.map_append]; rfl
theorem rowI_len (i : Nat) : (rowI i).length = i := by unfold rowI; simp
theorem rndL_len (S i : Nat) : (rndL S i).length = i := by unfold rndL; simp
set_option maxRecDepth 1000000 in
set_option maxHeartbeats 32000000 in
theorem walk_expanddeep (n b : Int) (w : World) (hn : 0 ≤ n ∧ n ≤ 255) (hb : 0 ≤ b ∧ b ≤ 255) :
    Calls Try.prog 6 #[.int .u8 n, .int .u8 b] w fun e w' => e = .returned (.bool true) ∧ Since w w' := by
  obtain ⟨r, hr⟩ : ∃ r : Nat, (r : Int) = n % 40 := ⟨(n % 40).toNat, by omega⟩
  have hr40 : r < 40 := by omega
  have e1 : n.tmod 40 = (r : Int) := by rw [Int.tmod_eq_emod_of_nonneg hn.1]; exact hr.symm
  have e2 : IntKind.u8.wrap (r : Int) = (r : Int) := by rw [IntKind.wrap_u8]; omega
  have e3 : IntKind.i64.wrap (r : Int) = (r : Int) := by rw [IntKind.wrap_i64]; omega
  obtain ⟨S, hS⟩ : ∃ S : Nat, S = r + 1 := ⟨_, rfl⟩
  have h0 : 0 < S := by omega
  have hS40 : S ≤ 40 := by omega
  have e4 : IntKind.i64.wrap (1 + (r : Int)) = (S : Int) := by rw [IntKind.wrap_i64]; omega
  obtain ⟨t, ht⟩ : ∃ t : Nat, (t : Int) = b % (S : Int) := ⟨(b % (S : Int)).toNat, by have := Int.emod_nonneg b (show (S : Int) ≠ 0 by omega); omega⟩
  have htS : t < S := by have := Int.emod_lt_of_pos b (show 0 < (S : Int) by omega); omega
  have f1 : b.tmod (S : Int) = (t : Int) := by rw [Int.tmod_eq_emod_of_nonneg hb.1]; exact ht.symm
  have f2 : IntKind.i64.wrap (t : Int) = (t : Int) := by rw [IntKind.wrap_i64]; omega
  have f3 : IntKind.i64.wrap b = b := by rw [IntKind.wrap_i64]; omega
  have hSz : ¬ (S : Int) = 0 := by omega
  have hSd : ((S : Int) == 0) = false := by simpa using hSz
  have hSI : (S : Int) ≤ 40 := by omega
  obtain ⟨E, hE⟩ : ∃ E : Int, E = if S ≤ 16 then 0 else 10 := ⟨_, rfl⟩
  have HRW := Lib.hid (fun (A : Option Addr) (c : Nat) (w2 : World) (h : RdBL w2 w2.heap.size A (rowL S)) => deep_row h0 hS40 E hE A (S + 1) c rfl w2 h)
  have HRN := Lib.hid (fun (A : Option Addr) (c : Nat) (w2 : World) (h : RdBL w2 w2.heap.size A (rndL S S)) => deep_rnd h0 hS40 A S c rfl t htS w2 h)
  have HE := Lib.hid hE
  clear hE ht hr hn hS
  go_enter Try.func6, Try.ntmps6
  go_wp2_with (go_at_call 7; (with_reducible refine (alive12 _).mono ?_); rintro e w1 ⟨rfl, hS1⟩)
  go_loopw [6, 7, 8] (fun v u y wr => ∃ i : Nat, i ≤ S ∧ y = .int .i64 (i : Int) ∧ OwnBL wr w1.heap.size v (rowI i) ∧ OwnBL wr w1.heap.size u (rndL S i) ∧ Apart7 v u ∧ Since w1 wr) (fun _ _ y _ => S - (intOf y).toNat)
  case atStart => exact ⟨0, by omega, by first | rfl | simp, OwnBL.nil _ _, OwnBL.nil _ _, apart_nil _, Since.refl _⟩
  case round =>
    obtain ⟨i, hi, rfl, hV, hU, hAP, hS⟩ := hrel
    by_cases hiS : i < S
    · have hiI : (i : Int) < (S : Int) := by omega
      have w1' : IntKind.i64.wrap ((i : Int) + 1) = ((i + 1 : Nat) : Int) := by rw [IntKind.wrap_i64]; omega
      obtain ⟨k, hk⟩ : ∃ k, k = i + 1 := ⟨_, rfl⟩
      obtain ⟨g, hg⟩ : ∃ g, g = (i + 1) % S := ⟨_, rfl⟩
      have hgS : g < S := by rw [hg]; exact Nat.mod_lt _ h0
      have m1 : (k : Int).tmod (S : Int) = (g : Int) := by rw [hk, hg, Int.tmod_eq_emod_of_nonneg (by omega)]; rfl
      have m2 : IntKind.i64.wrap (g : Int) = (g : Int) := by rw [IntKind.wrap_i64]; omega
      have hVl : (rowI i).length ≤ 1000000 := by rw [rowI_len]; omega
      have hUl : (rndL S i).length ≤ 1000000 := by rw [rndL_len]; omega
      have HV1 := Lib.hid (rowI_succ i)
      have HU1 := Lib.hid (rndL_succ S i)
      rw [← hk] at w1' HV1
      rw [← hg] at HU1
      have HK := Lib.hid hk
      have hk40 : k ≤ 40 := by omega
      have hwz := hS.below.size
      have tok1 := True.intro
      clear hg hk
      generalize rowI i = RI at *
      generalize rndL S i = UI at *
      go_upto_region 10 with (first | (go_at_call 20; (with_reducible refine (al_plain _).mono ?_); rintro e w2 ⟨rfl, hS2⟩) | (go_at_call 19; (with_reducible refine (al_d k (by omega) _ _ (part_d w2 _ rfl _ k)).mono ?_); rintro e w3 ⟨A3, c3, rfl, hO3, hS3⟩; have hX3 := hS2.trans (((Since.refl w2).alloc _).trans hS3); have hV3 := hV.since hX3; have hU3 := hU.since hX3; have hz3 := hX3.below.size; have hr3 := OwnG.low hO3 (show w1.heap.size ≤ _ by have := hS2.below.size; simp; omega)) | (at_builtin; refine wpList_append_bl rfl _ _ rfl rfl hV3 _ 1 A3 16 c3 (dB12 k) rfl _ rfl hr3 hVl (Nat.le_trans hwz hz3) ?_; intro v5 w5 hV5 hg5 hq5 hv5))
      have hS5 : Since w1 w5 := since_grown ((hS.trans hX3).alloc _) hg5 (fun q hq => (hq5 q hq).1)
      have hU5 := OwnBL.grownB (hU3.since ((Since.refl w3).alloc (.cells #[.slice A3 16 c3] 25))) (hV3.since ((Since.refl w3).alloc (.cells #[.slice A3 16 c3] 25))) hAP hg5
      have hAP5 := apart_grow hAP hU3 (Nat.le_succ _) hv5
      rw [← HV1.out] at hV5
      clear hg5 hq5 hv5 hV3 hU3 hX3 hO3 hr3 hV hU hAP hS2 hS3 hz3
      have hwz5 := hS5.below.size
      go_cut [11] (fun x wx => ∃ A6 c6, x = .slice A6 16 c6 ∧ OwnB wx w5.heap.size x (dB12 g) ∧ Since w5 wx)
      case first =>
        go_region_with (first | (go_at_call 20; (with_reducible refine (al_plain _).mono ?_); rintro e w6 ⟨rfl, hS6⟩; have hX6 : Since w5 w6 := (by (repeat (first | with_reducible (exact Since.refl _) | with_reducible assumption | with_reducible (refine Since.drew ?_) | with_reducible (refine Since.drewN ?_ _) | with_reducible (refine Since.alloc ?_ _) | (with_reducible (refine Since.setCell ?_ ?_ _); rotate_left; focus (first | (simp; done) | (simp; omega) | omega)) | (with_reducible (refine Since.trans ?_ (by with_reducible assumption))))))) | (go_at_call 19; refine (al_d g (by omega) _ _ (part_d _ _ (by first | rfl | simp) _ g)).mono ?_; rintro e w7 ⟨A6, c6, rfl, hO6, hS7⟩))
        all_goals go_wp2_with fail
        all_goals go_meet
        all_goals have hz6 := hX6.below.size
        all_goals have hX7 := hX6.trans (((Since.refl w6).alloc _).trans hS7)
        all_goals have hO8 := OwnG.low hO6 (show w5.heap.size ≤ _ by simp; omega)
        all_goals first
          | exact ⟨A6, c6, rfl, hO8, hX7⟩
          | exact ⟨A6, c6, rfl, OwnG.since hO8 ((Since.refl _).drew), hX7.drew⟩
      obtain ⟨A6, c6, rfl, hO6, hX6⟩ := hcut
      have hV6 := hV5.since hX6
      have hU6 := hU5.since hX6
      have hz6 := hX6.below.size
      have hr6 := OwnG.low hO6 hwz5
      have hS6 := hS5.trans hX6
      clear hO6 hV5 hU5
      go_wp2_with (at_builtin; refine wpList_append_bl rfl _ _ rfl rfl hU6 _ 1 A6 16 c6 (dB12 g) rfl _ rfl hr6 hUl (Nat.le_trans hwz5 hz6) ?_; intro v8 w8 hU8 hg8 hq8 hv8)
      have hS8 : Since w1 w8 := since_grown (hS6.alloc _) hg8 (fun q hq => (hq8 q hq).1)
      have hV8 := OwnBL.grownB (hV6.since ((Since.refl wc).alloc (.cells #[.slice A6 16 c6] 25))) (hU6.since ((Since.refl wc).alloc (.cells #[.slice A6 16 c6] 25))) hAP5.symm hg8
      have hAP8 := (apart_grow hAP5.symm hV6 (Nat.le_succ _) hv8).symm
      rw [← HU1.out, ← HK.out] at hU8
      have hkS : k ≤ S := by have := HK.out; omega
      go_roundw
      case rel => first | exact ⟨k, hkS, by first | rfl | go_num | simp, hV8, hU8, hAP8, hS8⟩ | ((repeat apply Exists.intro); refine ⟨?_, rfl⟩; exact ⟨k, hkS, by first | rfl | go_num | simp, hV8, hU8, hAP8, hS8⟩)
      case measure => have := HK.out; simp [intOf]; omega
    · obtain rfl : S = i := by omega
      have hiI : ¬ (S : Int) < (S : Int) := by omega
      have hVl : (rowI S).length ≤ 1000000 := by rw [rowI_len]; omega
      have HRL := Lib.hid (show rowI S ++ [[]] = rowL S from rfl)
      have hwz := hS.below.size
      have hU1 := hU.rd
      rw [rndL_len] at hU1
      generalize rowI S = RI at *
      go_upto_region 13 with (at_builtin; refine wpList_append_bl rfl _ _ rfl rfl hV _ 1 none 0 0 [] rfl _ rfl (OwnG.nil _ _ _ _ _) hVl hwz ?_; intro v3 w3 hV3 hg3 hq3 hv3)
      have hS3 : Since w1 w3 := since_grown (hS.alloc _) hg3 (fun q hq => (hq3 q hq).1)
      have hU3 := OwnBL.grownB (hU.since ((Since.refl wr).alloc (.cells #[.slice none 0 0] 25))) (hV.since ((Since.refl wr).alloc (.cells #[.slice none 0 0] 25))) hAP hg3
      rw [HRL.out] at hV3
      obtain ⟨AV, cV, rfl, _, hrV⟩ := hV3.rd
      obtain ⟨AU, cU, rfl, _, hrU⟩ := hU3.rd
      have hlR : (rowL S).length = S + 1 := by unfold rowL; simp
      rw [hlR, rndL_len]
      clear hg3 hq3 hv3 hV3 hU3 hV hU hAP hU1 hlR
      have tok1 := True.intro
      have tok2 := True.intro
      have HE2 := HE.out
      by_cases h16 : S ≤ 16
      · rw [if_pos h16] at HE2
        subst HE2
        have hI16 : (S : Int) ≤ 16 := by omega
        go_wp2_with (first | (go_at_call 10; have _t := tok1; (with_reducible refine (HRW.out _ _ _ hrV).mono ?_); rintro e w4 ⟨A4, c4, rfl, hS4⟩; have hrU4 := hrU.on hS4; clear tok1) | (go_at_call 10; have _t := tok2; (with_reducible refine (HRN.out _ _ _ hrU4).mono ?_); rintro e w5 ⟨A5, c5, rfl, hS5⟩; clear tok2))
        go_ret
        exact ⟨by first | rfl | (simp; done) | (simp; omega), ((hS1.trans hS3).trans hS4).trans hS5⟩
      · rw [if_neg h16] at HE2
        subst HE2
        have hI16 : ¬ (S : Int) ≤ 16 := by omega
        go_wp2_with (first | (go_at_call 10; have _t := tok1; (with_reducible refine (HRW.out _ _ _ hrV).mono ?_); rintro e w4 ⟨A4, c4, rfl, hS4⟩; have hrU4 := hrU.on hS4; clear tok1) | (go_at_call 10; have _t := tok2; (with_reducible refine (HRN.out _ _ _ hrU4).mono ?_); rintro e w5 ⟨A5, c5, rfl, hS5⟩; clear tok2))
        go_ret
        exact ⟨by first | rfl | (simp; done) | (simp; omega), ((hS1.trans hS3).trans hS4).trans hS5⟩
end Go.Proofs.Ytcjjcjpkmjbfkaa
