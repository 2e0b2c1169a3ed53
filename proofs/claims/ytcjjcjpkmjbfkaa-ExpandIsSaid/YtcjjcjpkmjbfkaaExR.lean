/-
  Layer 12: the law ExpandIs, walked.
-/
import Derived.Test.YtcjjcjpkmjbfkaaExQ
namespace Go.Proofs.Ytcjjcjpkmjbfkaa
open Go.RowKit Go.ChangeShapes Go.WideShapes Go.Deep
set_option linter.unusedVariables false
set_option linter.unusedSimpArgs false

set_option maxRecDepth 100000 in
set_option maxHeartbeats 16000000 in
theorem walk_expandis (A : Option Addr) (N c : Nat) (G : List (List Int)) (id : Int) (w : World) (h : RdBL w w.heap.size A G) (hN : N = G.length) (hN63 : N ≤ 9223372036854775807) (hb : ∀ b, b ∈ G → Bytes b) (hl : ∀ b, b ∈ G → b.length ≤ 9223372036854775807) :
    Calls Try.prog 3 #[.slice A N c, .int .i64 id] w fun e w' => e = .returned (.bool true) ∧ Since w w' := by
  have HGR := Lib.hid (fun (w2 : World) (h2 : RdBL w2 w2.heap.size A G) => great12 A N c G w2 h2 hN hN63 hl)
  cases hg : gr12 G
  · rw [hg] at HGR
    obtain ⟨h60, h3000⟩ := gr12_no hg
    have hN60 : N ≤ 60 := by omega
    have hNI : (N : Int) ≤ 60 := by omega
    have HXF := Lib.hid (fun (A2 : Option Addr) (c2 : Nat) (w2 : World) (h2 : RdBL w2 w2.heap.size A2 G) => ex_of A2 N c2 G id w2 h2 hb (fun b hb => by have := h3000 b hb; omega) hN hN63)
    have HRF := Lib.hid (fun (w2 : World) (h2 : RdBL w2 w2.heap.size A G) => rf_of12 A N c G id w2 h2 hb (fun b hb => by have := h3000 b hb; omega) hN hN63)
    unfold OfP at HXF HRF
    have hXl : (if (vis12 G 17 id 0).e = 0 then (vis12 G 17 id 0).LL else []).length ≤ 4096 ∧ ∀ L, L ∈ (if (vis12 G 17 id 0).e = 0 then (vis12 G 17 id 0).LL else []) → L.length ≤ 4096 := by
      by_cases h0 : (vis12 G 17 id 0).e = 0
      · rw [if_pos h0]
        obtain ⟨f1, f2, f3⟩ := vis_fine hb 17 id 0 h0
        have f4 := len_sum f1.2
        exact ⟨by omega, fun L hL => by have := mem_sum hL; omega⟩
      · rw [if_neg h0]
        simp
    generalize (if (vis12 G 17 id 0).e = 0 then (vis12 G 17 id 0).LL else []) = X at *
    generalize (vis12 G 17 id 0).e = E at *
    have HSM := Lib.hid (fun (A1 A2 : Option Addr) (c1 c2 : Nat) (w2 : World) (h1 : RdOL w2 w2.heap.size A1 X) (h2 : RdOL w2 w2.heap.size A2 X) => rf_sameL A1 A2 c1 c2 X w2 h1 h2 (by simp only [maxLen]; omega) (fun L hL => by have := hXl.2 L hL; simp only [maxLen]; omega))
    have HN := Lib.hid hN
    have H3 := Lib.hid h3000
    clear hN hb hl hg h60 h3000 hXl
    go_enter Try.func3, Try.ntmps3
    go_wp2_with (first | (go_at_call 7; (with_reducible refine (alive12 _).mono ?_); rintro e w1 ⟨rfl, hS1⟩; have hG1 := h.on hS1) | (go_at_call 8; (with_reducible refine (HGR.out _ hG1).mono ?_); rintro e w2 ⟨rfl, hS2⟩; have hG2 := hG1.on hS2; have hT2 := hS1.trans hS2))
    go_loopw [5, 20] (fun v y wr => ∃ (j : Nat), j ≤ N ∧ y = .int .i64 (j : Int) ∧ OwnBL wr w2.heap.size v (G.take j) ∧ Since w2 wr) (fun _ y _ => N - (intOf y).toNat)
    case atStart => exact ⟨0, by omega, by first | rfl | simp, OwnBL.nil _ _, Since.refl _⟩
    case round =>
      obtain ⟨j, hj, rfl, hO, hS⟩ := hrel
      by_cases hjn : j < N
      · have hjI : (j : Int) < (N : Int) := by omega
        have hjG : j < G.length := by rw [← HN.out]; exact hjn
        have hGj : G[j]? = some G[j] := List.getElem?_eq_getElem hjG
        have hbl := H3.out _ (List.getElem_mem hjG)
        have hsn := Lib.hid (show G.take (j + 1) = G.take j ++ [G[j]] from List.take_succ_eq_append_getElem hjG)
        obtain ⟨b, o, A', c', rfl, hb, hcell, hlc, hrow⟩ := hG2.row hGj
        have c1 := (hS.1 _ _ hb).trans hcell
        have hbw := hS.2.2.1 _ hb
        have hrw := RdG.on hrow hS
        have hlt : (G.take j).length ≤ 1000000 := by rw [List.length_take]; omega
        generalize G[j] = L at *
        obtain ⟨n', hn'⟩ : ∃ n', n' = L.length := ⟨_, rfl⟩
        rw [← hn'] at c1 hlc hbl
        have HCP := Lib.hid (copy_l A' n' c' L wr hn' hrw (by omega))
        have hwz := hS.below.size
        have HGT := Lib.hid hlt
        clear hn' hcell hGj hjG hrow hlt
        generalize hgt : G.take j = GJ at *
        go_wp2_with (first | (go_at_call 9; (with_reducible refine HCP.out.mono ?_); rintro e w3 ⟨g3, cap3, rfl, hc3, hg3, hO3, _, hS3⟩; have hO4 := hO.since hS3; have hz3 := hS3.below.size) | (at_builtin; refine wpList_append_bl rfl _ _ rfl rfl hO4 _ 1 (some ⟨g3, 0, none⟩) n' cap3 L rfl _ rfl (OwnG.low hO3 hwz) HGT.out (Nat.le_trans hwz hz3) ?_; intro v5 w5 hO5 hg5 hq5 hv5))
        have hS5 : Since w2 w5 := since_grown ((hS.trans hS3).alloc _) hg5 (fun q hq => (hq5 q hq).1)
        have hO6 := hO5
        rw [← hsn.out] at hO6
        go_roundw
        case rel => first | exact ⟨j + 1, by omega, by first | rfl | go_num | simp, hO6, hS5⟩ | ((repeat apply Exists.intro); refine ⟨?_, rfl⟩; exact ⟨j + 1, by omega, by first | rfl | go_num | simp, hO6, hS5⟩)
        case measure => simp [intOf]; omega
      · obtain rfl : N = j := by omega
        have hjI : ¬ (N : Int) < (N : Int) := by omega
        have e1 : G.take N = G := by rw [HN.out, List.take_length]
        rw [e1] at hO
        obtain ⟨A3, c3, rfl, hc3, hr3⟩ := hO.rd
        rw [← HN.out]
        have hG3 := hG2.on hS
        have hT3 := hT2.trans hS
        clear hO e1 hc3 hG2 hT2 hS
        go_wp2_with (first | (go_at_call 10; (with_reducible refine (HXF.out A3 c3 _ hr3).mono ?_); rintro e w4 ⟨u4, rfl, hO4, hS4⟩; obtain ⟨A4, c4, rfl, _, hr4⟩ := hO4.rd; have hG4 := hG3.on hS4; have hI4 := hr3.on hS4; have hT4 := hT3.trans hS4) | (go_at_call 11; (with_reducible refine (HRF.out _ hG4).mono ?_); rintro e w5 ⟨u5, rfl, hO5, hS5⟩; obtain ⟨A5, c5, rfl, _, hr5⟩ := hO5.rd; have hG5 := hG4.on hS5; have hI5 := hI4.on hS5; have hT5 := hT4.trans hS5; have hX5 := hr4.on hS5) | (go_at_call 12; (with_reducible refine (HSM.out _ _ _ _ _ hX5 hr5).mono ?_); rintro e w6 ⟨rfl, hS6⟩; have hG6 := hG5.on hS6; have hI6 := hI5.on hS6; have hT6 := hT5.trans hS6))
        go_loopw [53] (fun y wr => ∃ (j : Nat), j ≤ N ∧ y = .int .i64 (j : Int) ∧ Since w6 wr) (fun y _ => N - (intOf y).toNat)
        case atStart => exact ⟨0, by omega, by first | rfl | simp, Since.refl _⟩
        case round =>
          obtain ⟨j, hj2, rfl, hSj⟩ := hrel
          by_cases hjn2 : j < N
          · have hjI2 : (j : Int) < (N : Int) := by omega
            have hjG : j < G.length := by rw [← HN.out]; exact hjn2
            have hGj : G[j]? = some G[j] := List.getElem?_eq_getElem hjG
            obtain ⟨b, o, A7, c7, rfl, hb, hcell, hlc, hrow⟩ := (hG6.on hSj).row hGj
            obtain ⟨b2, o2, A8, c8, rfl, hb2, hcell2, hlc2, hrow2⟩ := (hI6.on hSj).row hGj
            generalize G[j] = L at *
            obtain ⟨n', hn'⟩ : ∃ n', n' = L.length := ⟨_, rfl⟩
            rw [← hn'] at hcell hcell2
            have HSL := Lib.hid (same_l A8 A7 n' n' c8 c7 L L wr hn' hn' hrow2 hrow rfl)
            have hNI2 : (j : Int) < 60 := by omega
            clear hn' hGj hjG hrow hrow2
            go_wp2_with (go_at_call 13; (with_reducible refine HSL.out.mono ?_); rintro e w7 ⟨rfl, hw7⟩; have hS7 : Since w6 w7 := (by rw [hw7]; exact hSj); clear hw7)
            go_roundw
            case rel => first | exact ⟨j + 1, by omega, by first | rfl | go_num | simp, hS7⟩ | ((repeat apply Exists.intro); refine ⟨?_, rfl⟩; exact ⟨j + 1, by omega, by first | rfl | go_num | simp, hS7⟩)
            case measure => simp [intOf]; omega
          · obtain rfl : N = j := by omega
            have hjI2 : ¬ (N : Int) < (N : Int) := by omega
            go_wp2_with fail
            go_ret
            exact ⟨by first | rfl | simp, hT6.trans hSj⟩
  · rw [hg] at HGR
    clear hb hl hN hg
    go_enter Try.func3, Try.ntmps3
    go_wp2_with (first | (go_at_call 7; (with_reducible refine (alive12 _).mono ?_); rintro e w1 ⟨rfl, hS1⟩; have hG1 := h.on hS1) | (go_at_call 8; (with_reducible refine (HGR.out _ hG1).mono ?_); rintro e w2 ⟨rfl, hS2⟩; have hT2 := hS1.trans hS2))
    go_ret
    exact ⟨by first | rfl | simp, hT2⟩
end Go.Proofs.Ytcjjcjpkmjbfkaa
