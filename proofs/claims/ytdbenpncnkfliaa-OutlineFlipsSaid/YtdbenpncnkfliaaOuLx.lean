/-
  Layer 11: the law OutlineLifts, walked.
-/
import Derived.Test.YtdbenpncnkfliaaOuLw
namespace Go.Proofs.Ytdbenpncnkfliaa
open Go.RowKit Go.ChangeShapes Go.WideShapes Go.Deep
set_option linter.unusedVariables false

theorem allIn_len {LL : List (List Kt)} : (LL.map (List.map liftK)).length = LL.length := List.length_map ..
theorem lens_le {LL : List (List Kt)} {m : Nat} (h : ∀ L, L ∈ LL → L.length ≤ m) : ∀ L, L ∈ LL.map (List.map liftK) → L.length ≤ m := fun L hL => by
  rw [List.mem_map] at hL
  obtain ⟨M, hM, rfl⟩ := hL
  rw [List.length_map]
  exact h M hM
theorem ou_lift_yes (A : Option Addr) (c : Nat) (LL : List (List Kt)) (w : World) (h : RdOL w w.heap.size A LL) (hn : LL.length ≤ 1000000) (hm : ∀ L, L ∈ LL → L.length ≤ 1000000) (ha : allIn LL) :
    Calls Try.prog 28 #[.slice A LL.length c] w fun e w' => ∃ A' c' base, e = .returned (.tuple #[.slice A' LL.length c', .int .i64 0]) ∧ w.heap.size ≤ base ∧ OwnO w' base (.slice A' LL.length c') (LL.map (List.map liftK)) ∧ Since w w' := by
  refine (ou_lift A c LL w h hn hm).mono ?_
  rintro e w' (⟨_, v, base, rfl, hb, hO, hS⟩ | ⟨hno, _⟩)
  · obtain ⟨A', c', rfl, _, _⟩ := hO.rd
    rw [List.length_map] at hO ⊢
    exact ⟨A', c', base, rfl, hb, hO, hS⟩
  · exact absurd ha hno
theorem ou_lift_no (A : Option Addr) (c : Nat) (LL : List (List Kt)) (w : World) (h : RdOL w w.heap.size A LL) (hn : LL.length ≤ 1000000) (hm : ∀ L, L ∈ LL → L.length ≤ 1000000) (ha : ¬ allIn LL) :
    Calls Try.prog 28 #[.slice A LL.length c] w fun e w' => e = .returned (.tuple #[.slice none 0 0, .int .i64 6]) ∧ Since w w' := by
  refine (ou_lift A c LL w h hn hm).mono ?_
  rintro e w' (⟨h1, _⟩ | ⟨_, h2⟩)
  · exact absurd h1 ha
  · exact h2
theorem rf_lift_yes (A : Option Addr) (c : Nat) (LL : List (List Kt)) (w : World) (h : RdOL w w.heap.size A LL) (hn : LL.length ≤ 1000000) (hm : ∀ L, L ∈ LL → L.length ≤ 1000000) (ha : allIn LL) :
    Calls Try.prog 29 #[.slice A LL.length c] w fun e w' => ∃ A' c', e = .returned (.tuple #[.slice A' LL.length c', .int .i64 0]) ∧ RdOL w' w'.heap.size A' (LL.map (List.map liftK)) ∧ Since w w' := by
  refine (rf_lift A c LL w h hn hm).mono ?_
  rintro e w' (⟨_, h2⟩ | ⟨hno, _⟩)
  · exact h2
  · exact absurd ha hno
theorem rf_lift_no (A : Option Addr) (c : Nat) (LL : List (List Kt)) (w : World) (h : RdOL w w.heap.size A LL) (hn : LL.length ≤ 1000000) (hm : ∀ L, L ∈ LL → L.length ≤ 1000000) (ha : ¬ allIn LL) :
    Calls Try.prog 29 #[.slice A LL.length c] w fun e w' => e = .returned (.tuple #[.slice none 0 0, .int .i64 6]) ∧ Since w w' := by
  refine (rf_lift A c LL w h hn hm).mono ?_
  rintro e w' (⟨h1, _⟩ | ⟨_, h2⟩)
  · exact absurd h1 ha
  · exact h2
theorem rdOL_nil (w : World) (B : Nat) (A : Option Addr) : RdOL w B A [] := ⟨[], rfl, RdG.nil, fun j h L h1 h2 => by simp at h1⟩
theorem same_nil (w : World) : Calls Try.prog 18 #[.slice none 0 0, .slice none 0 0] w fun e w' => e = .returned (.bool true) ∧ Since w w' :=
  rf_sameL none none 0 0 [] w (rdOL_nil _ _ _) (rdOL_nil _ _ _) (by simp [maxLen]) (by simp)
theorem same_lift (A A' : Option Addr) (c c' : Nat) (LL : List (List Kt)) (base : Nat) (w : World) (h : OwnO w base (.slice A LL.length c) (LL.map (List.map liftK))) (h' : RdOL w w.heap.size A' (LL.map (List.map liftK))) (hn : LL.length ≤ maxLen) (hm : ∀ L, L ∈ LL → L.length ≤ maxLen) :
    Calls Try.prog 18 #[.slice A LL.length c, .slice A' LL.length c'] w fun e w' => e = .returned (.bool true) ∧ Since w w' := by
  obtain ⟨A2, c2, e, _, hr⟩ := h.rd
  injection e with e1 e2 e3
  subst e1
  have hx := rf_sameL A A' c c' (LL.map (List.map liftK)) w hr h' (by rw [List.length_map]; exact hn) (lens_le hm)
  rw [List.length_map] at hx
  exact hx
set_option maxRecDepth 1000000 in
set_option maxHeartbeats 32000000 in
theorem walk_outlinelifts (A : Option Addr) (c : Nat) (LL : List (List Kt)) (w : World) (h : RdOL w w.heap.size A LL) (hn : LL.length ≤ maxLen) (hm : ∀ L, L ∈ LL → L.length ≤ maxLen) :
    Calls Try.prog 8 #[.slice A LL.length c] w fun e w' => e = .returned (.bool true) ∧ Since w w' := by
  have hgr := fun w (h : RdOL w w.heap.size A LL) => rf_great A c LL w h hn hm
  have HG := Lib.hid hgr
  clear hgr
  go_enter Try.func8, Try.ntmps8
  go_upto_if 13 with (first | (go_at_call 14; (with_reducible refine (alive11 _).mono ?_); rintro e w1 ⟨rfl, hS1⟩; have hR1 := h.on hS1; clear h) | (go_at_call 21; (with_reducible refine (HG.out _ hR1).mono ?_); rintro e w2 ⟨g, rfl, hng, hS2⟩; have hR2 := hR1.on hS2; have hT2 := hS1.trans hS2; have HNG := Lib.hid hng; clear hng hR1 hS1 hS2))
  cases g
  · obtain ⟨n6, n5, n9⟩ := HNG.out rfl
    have n5' : ∀ L, L ∈ LL → L.length ≤ 1000000 := fun L hL => by have := n5 L hL; omega
    have N5 := Lib.hid n5'
    clear n5 n5' HNG HG hm
    have hle : ∀ L, L ∈ LL → L.length ≤ maxLen := fun L hL => by have := N5.out L hL; simp only [maxLen]; omega
    have hLE := Lib.hid hle
    clear hle
    by_cases hal : allIn LL
    · have HAL := Lib.hid hal
      have hl2 : (LL.map (List.map liftK)).length = LL.length := List.length_map ..
      have HL2 := Lib.hid hl2
      clear hal hl2
      go_upto_region 10 with (first | (go_at_call 22; (with_reducible refine (rf_copy A c LL _ hR2 (by omega) N5.out).mono ?_); rintro e w3 ⟨A3, c3, rfl, hR3, hS3⟩; have hR23 := hR2.on hS3; have hT3 := hT2.trans hS3; clear hR2 hT2) | (go_at_call 28; (with_reducible refine (ou_lift_yes A3 c3 LL _ hR3 (by omega) N5.out HAL.out).mono ?_); rintro e w4 ⟨A4, c4, base, rfl, hbase, hO4, hS4⟩; have hR34 := hR3.on hS4; have hR24 := hR23.on hS4; have hT4 := hT3.trans hS4) | (go_at_call 29; (with_reducible refine (rf_lift_yes A c LL _ hR24 (by omega) N5.out HAL.out).mono ?_); rintro e w5 ⟨A5, c5, rfl, hR5, hS5⟩; have hO5 := hO4.since hS5; have hT5 := hT4.trans hS5) | (go_at_call 18; (with_reducible refine (same_lift A4 A5 c4 c5 LL base _ hO5 hR5 hn hLE.out).mono ?_); rintro e w6 ⟨rfl, hS6⟩; have hO6 := hO5.since hS6; have hT6 : Since w3 w6 := ((hS4.trans hS5).trans hS6)))
      have hWr := hO6.wr
      clear hO4 hO5 hO6 hR34 hR24 hR5 hS4 hS5 hS6 hT4 hT5
      obtain ⟨N, hN⟩ : ∃ N, N = LL.length := ⟨_, rfl⟩
      have HN := Lib.hid hN
      rw [← hN] at hWr hn n6 ⊢
      have hNI : (N : Int) ≤ 600 := by omega
      clear hN
      have hwb : w3.heap.size ≤ base := hbase
      go_wp2_with fail
      go_loopw [37] (fun y wr => ∃ i : Nat, i ≤ N ∧ y = .int .i64 (i : Int) ∧ WrO wr base (.slice A4 N c4) (LL.map (List.map liftK)) ∧ Since w3 wr) (fun y _ => N - (intOf y).toNat)
      case atStart => exact ⟨0, by omega, rfl, hWr, hT6⟩
      case round =>
        obtain ⟨i, hi, rfl, hW, hS⟩ := hrel
        by_cases hiN : i < N
        · have hiN' : (i : Int) < N := by omega
          have hiL : i < LL.length := by rw [← HN.out]; exact hiN
          have hL : (LL.map (List.map liftK))[i]? = some (LL[i].map liftK) := by rw [List.getElem?_map, List.getElem?_eq_getElem hiL]; rfl
          have hml : (LL[i].map liftK).length ≤ 1000000 := by rw [List.length_map]; exact N5.out _ (List.getElem_mem hiL)
          have HL := Lib.hid hL
          generalize LL[i].map liftK = L at *
          clear hL hiL
          obtain ⟨g, c5', A', c', hv, hg, hcell, hrow⟩ := hW.row HL.out
          injection hv with hv hva hvb
          subst hv
          clear hva hvb hrow
          obtain ⟨m, hm⟩ : ∃ m, m = L.length := ⟨_, rfl⟩
          rw [← hm] at hml hcell
          have HMM := Lib.hid hm
          clear hm
          go_wp2_with fail
          go_loopw [45] (fun y wr' => ∃ k : Nat, k ≤ m ∧ y = .int .i64 (k : Int) ∧ WrO wr' base (.slice (some ⟨g, 0, none⟩) N c4) (LL.map (List.map liftK)) ∧ Since w3 wr') (fun y _ => m - (intOf y).toNat)
          case atStart => exact ⟨0, by omega, rfl, hW, hS⟩
          case round =>
            obtain ⟨k, hk, rfl, hW, hS⟩ := hrel
            by_cases hkm : k < m
            · have hkm' : (k : Int) < m := by omega
              obtain ⟨g2, c6, A2, c2, hv, hg2, hcell2, hrow⟩ := hW.row HL.out
              injection hv with hv hva hvb
              injection hv with hv
              injection hv with hv hv2
              subst hv
              obtain ⟨q, x, M, rfl, hbq, hqs, hgq, hx, hf, hO⟩ := hrow k (by rw [← HMM.out]; exact hkm)
              rw [← HMM.out] at hcell2
              have HO := Lib.hid hO
              have HW := Lib.hid hW
              have hqw : w3.heap.size ≤ q := by omega
              clear hva hvb hv2 hrow hO hW hcell hg
              go_upto_region 16 with fail
              go_region
              all_goals (go_wp2_with fail)
              all_goals go_roundw
              all_goals first
                | (simp [intOf]; omega)
                | exact ⟨k + 1, by omega, by go_num, (HW.out.since (by (repeat (first | with_reducible (exact Since.refl _) | with_reducible assumption | with_reducible (refine Since.drew ?_) | with_reducible (refine Since.drewN ?_ _) | with_reducible (refine Since.alloc ?_ _) | (with_reducible (refine Since.setCell ?_ ?_ _); rotate_left; focus (first | (simp; done) | (simp; omega) | omega)) | (with_reducible (refine Since.trans ?_ (by with_reducible assumption))))))).put (OwnG.since HO.out (by (repeat (first | with_reducible (exact Since.refl _) | with_reducible assumption | with_reducible (refine Since.drew ?_) | with_reducible (refine Since.drewN ?_ _) | with_reducible (refine Since.alloc ?_ _) | (with_reducible (refine Since.setCell ?_ ?_ _); rotate_left; focus (first | (simp; done) | (simp; omega) | omega)) | (with_reducible (refine Since.trans ?_ (by with_reducible assumption))))))) rfl k _, (hS.drew).setCell hqw _⟩
            · obtain rfl : m = k := by omega
              go_wp2_with fail
              go_roundw
              case rel => exact ⟨i + 1, by omega, by go_num, hW, hS⟩
              case measure => simp [intOf]; omega
        · obtain rfl : N = i := by omega
          have hRa := hR3.on hS
          have hRb := hR23.on hS
          have hsm := rf_sameL A3 A c3 c LL _ hRa hRb (by rw [← HN.out]; exact hn) hLE.out
          rw [← HN.out] at hsm
          go_wp2_with (go_at_call 18; (with_reducible refine hsm.mono ?_); rintro e w7 ⟨rfl, hS7⟩)
          go_ret
          exact ⟨rfl, (hT3.trans hS).trans hS7⟩
    · have HAL := Lib.hid hal
      clear hal
      go_wp2_with (first | (go_at_call 22; (with_reducible refine (rf_copy A c LL _ hR2 (by omega) N5.out).mono ?_); rintro e w3 ⟨A3, c3, rfl, hR3, hS3⟩; have hR23 := hR2.on hS3; have hT3 := hT2.trans hS3; clear hR2 hT2) | (go_at_call 28; (with_reducible refine (ou_lift_no A3 c3 LL _ hR3 (by omega) N5.out HAL.out).mono ?_); rintro e w4 ⟨rfl, hS4⟩; have hR34 := hR3.on hS4; have hR24 := hR23.on hS4; clear hR3 hR23) | (go_at_call 29; (with_reducible refine (rf_lift_no A c LL _ hR24 (by omega) N5.out HAL.out).mono ?_); rintro e w5 ⟨rfl, hS5⟩; have hR35 := hR34.on hS5; have hR25 := hR24.on hS5; clear hR34 hR24) | (go_at_call 18; (with_reducible refine (same_nil _).mono ?_); rintro e w6 ⟨rfl, hS6⟩; have hR36 := hR35.on hS6; have hR26 := hR25.on hS6; clear hR35 hR25))
      go_loopw [37] (fun y wr => y = .int .i64 0 ∧ Since w6 wr) (fun y _ => 0)
      case atStart => exact ⟨rfl, Since.refl _⟩
      case round =>
        obtain ⟨rfl, hSr⟩ := hrel
        have hRa := hR36.on hSr
        have hRb := hR26.on hSr
        go_wp2_with (go_at_call 18; (with_reducible refine (rf_sameL A3 A c3 c LL _ hRa hRb hn hLE.out).mono ?_); rintro e w7 ⟨rfl, hS7⟩)
        go_ret
        exact ⟨rfl, by (repeat (first | with_reducible (exact Since.refl _) | with_reducible assumption | with_reducible (refine Since.drew ?_) | with_reducible (refine Since.drewN ?_ _) | with_reducible (refine Since.alloc ?_ _) | (with_reducible (refine Since.setCell ?_ ?_ _); rotate_left; focus (first | (simp; done) | (simp; omega) | omega)) | (with_reducible (refine Since.trans ?_ (by with_reducible assumption)))))⟩
  · go_wp2_with fail
    go_ret
    exact ⟨rfl, hT2⟩
end Go.Proofs.Ytdbenpncnkfliaa
