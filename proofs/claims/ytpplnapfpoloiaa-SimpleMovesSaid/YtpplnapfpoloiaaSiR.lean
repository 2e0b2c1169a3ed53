/-
  Layer 7: writeFlags, walked.
-/
import Derived.Test.YtpplnapfpoloiaaSiO
import Derived.Deep.QuietTactic
import Derived.BigQuiet
namespace Go.Proofs.Ytpplnapfpoloiaa
open Go.RowKit Go.ChangeShapes Go.WideShapes Go.Deep
set_option linter.unusedVariables false
set_option linter.unusedSimpArgs false

theorem or8_fin : ∀ n : Fin 64, (n.val / 8 % 2 = 1) ∨ bits .or .i64 (n.val : Int) 8 = (n.val : Int) + 8 := by decide
theorem or8 {f : Int} (h : FlOk f) (h6 : f < 64) : bits .or .i64 f 8 = f + 8 := by
  obtain ⟨h0, h1, h2⟩ := h
  obtain ⟨n, rfl⟩ := Int.eq_ofNat_of_zero_le h0
  rcases or8_fin ⟨n, by omega⟩ with h | h
  · exact absurd (show Has8 (n : Int) 8 by unfold Has8; simp only at h; omega) h2
  · exact h
theorem drop_cons7 {G : List Int} {i : Nat} (h : i < G.length) : G.drop i = fnL G i :: G.drop (i + 1) := by
  rw [List.drop_eq_getElem_cons h]
  congr 1
  have := fnL_get h
  rw [List.getElem?_eq_getElem h] at this
  exact Option.some.inj this
theorem fnL_drop (G : List Int) (i j : Nat) : (G.drop i).getD j 0 = fnL G (i + j) := by
  unfold fnL; rw [List.getD_eq_getElem?_getD, List.getD_eq_getElem?_getD, List.getElem?_drop]
/-- Behind a row of r flags that are the same, and no longer. -/
theorem rle7_row {G : List Int} {i r : Nat} (h : i < G.length) (hr : 1 ≤ r) (hr2 : r ≤ 256) (hir : i + r ≤ G.length) (hs : ∀ t, t < r → fnL G (i + t) = fnL G i) (hend : r = 256 ∨ i + r = G.length ∨ fnL G (i + r) ≠ fnL G i) :
    rle7 (G.drop i) = (if r = 1 then [fnL G i] else [fnL G i + 8, ((r - 1 : Nat) : Int)]) ++ rle7 (G.drop (i + r)) := by
  have hrun : run7 (fnL G i) 255 (G.drop (i + 1)) = r - 1 := by
    refine run7_is _ 255 _ (r - 1) (by omega) (by rw [List.length_drop]; omega) (fun t ht => ?_) ?_
    · rw [fnL_drop, show i + 1 + t = i + (t + 1) by omega]; exact hs (t + 1) (by omega)
    · rcases hend with h1 | h1 | h1
      · exact .inl (by omega)
      · exact .inr (.inl (by rw [List.length_drop]; omega))
      · exact .inr (.inr (by rw [fnL_drop, show i + 1 + (r - 1) = i + r by omega]; exact h1))
  rw [drop_cons7 h, rle7_cons, hrun]
  by_cases h1 : r = 1
  · subst h1
    rw [if_pos (by omega), if_pos rfl]; rfl
  · rw [if_neg (by omega), if_neg h1, List.drop_drop, show i + 1 + (r - 1) = i + r by omega]; rfl
/-- What 'writeFlags' leaves. -/
def WfPost (L : List Int) (w : World) (e : Ending) (w' : World) : Prop := ∃ v, e = .returned v ∧ OwnB w' w.heap.size v L ∧ Since w w'
def WfHead (G : List Int) (w : World) (m : Nat) (v y : Value) (wr : World) : Prop := ∃ (i : Nat) (P : List Int), i ≤ m ∧ y = .int .i64 (i : Int) ∧ OwnB wr w.heap.size v P ∧ P.length ≤ i ∧ Since w wr ∧ P ++ rle7 (G.drop i) = rle7 G
set_option maxRecDepth 100000 in
set_option maxHeartbeats 16000000 in
theorem si_wflags (B : Option Addr) (m d : Nat) (G : List Int) (w : World) (h : Rd w w.heap.size B m (I64 (fnL G))) (hm : m = G.length) (hm4 : m ≤ 4096) (hG : ∀ g ∈ G, FlOk g ∧ g < 64) :
    Calls Try.prog 105 #[.slice B m d] w (WfPost (rle7 G) w) := by
  have HM := Lib.hid hm
  have HG := Lib.hid hG
  have hmI : (m : Int) ≤ 4096 := by omega
  clear hm hG
  go_enter Try.func105, Try.ntmps105
  go_wp2_with fail
  go_loopw [3, 4] (fun v y wr => WfHead G w m v y wr) (fun _ y _ => m - (intOf y).toNat)
  case atStart => exact ⟨0, [], by omega, rfl, OwnG.nil _ _ _ _ _, Nat.le_refl _, Since.refl _, rfl⟩
  case round =>
    obtain ⟨i, P, hi, rfl, hO, hP, hS, hR⟩ := hrel
    have HR := Lib.hid hR
    clear hR
    by_cases him : i < m
    · have him' : (i : Int) < (m : Int) := by omega
      have hiG : i < G.length := by rw [← HM.out]; exact him
      obtain ⟨hfo, hf6⟩ := HG.out (fnL G i) (List.mem_of_getElem? (fnL_get hiG))
      obtain ⟨gb, go, rfl, gl, gc⟩ := h (by omega)
      have gl2 := hS.2.2.1 _ gl
      have g1 := (hS.1 _ _ gl).trans (gc i him)
      simp only [I64, IntRow] at g1
      have HGC := Lib.hid (fun j (hj : j < m) => (hS.1 _ _ gl).trans (gc j hj))
      clear h gc
      go_wp2_with fail
      go_loopw [5] (fun z wi => ∃ r : Nat, 1 ≤ r ∧ r ≤ 256 ∧ i + r ≤ m ∧ z = .int .i64 (r : Int) ∧ Since wr wi ∧ Hid (∀ t, t < r → fnL G (i + t) = fnL G i)) (fun z _ => 256 - (intOf z).toNat)
      case atStart => exact ⟨1, by omega, by omega, by omega, rfl, Since.refl _, Lib.hid (fun t ht => by rw [show t = 0 by omega]; rfl)⟩
      case round =>
        obtain ⟨r, hr1, hr2, hir, rfl, hSi, HS⟩ := hrel
        have s1 := (hSi.1 _ _ gl2).trans g1
        have gl3 := hSi.2.2.1 _ gl2
        have hT := hS.trans hSi
        have hw1 : IntKind.i64.wrap ((i : Int) + (r : Int)) = ((i + r : Nat) : Int) := by rw [IntKind.wrap_i64]; omega
        by_cases ha : r = 256
        · have d1 : decide ((r : Int) < 256) = false := by simp; omega
          have HEND : r = 256 ∨ i + r = G.length ∨ fnL G (i + r) ≠ fnL G i := .inl ha
          have ha2 : 2 ≤ r := by omega
          clear ha
          go_wp2
          go_quiet (fail)
          have hr9 : ¬ (r : Int) = 1 := by omega
          have HRW := Lib.hid (rle7_row (G := G) (i := i) (r := r) hiG hr1 hr2 (by have := HM.out; omega) HS.out HEND)
          have ho8 := or8 hfo hf6
          have hwb : IntKind.u8.wrap (fnL G i + 8) = fnL G i + 8 := by rw [IntKind.wrap_u8]; have := hfo.1; omega
          have hwr : IntKind.i64.wrap ((r : Int) - 1) = ((r - 1 : Nat) : Int) := by rw [IntKind.wrap_i64]; omega
          have hwc : IntKind.u8.wrap ((r - 1 : Nat) : Int) = ((r - 1 : Nat) : Int) := by rw [IntKind.wrap_u8]; omega
          have hlen2 : P.length + ([fnL G i + 8, ((r - 1 : Nat) : Int)] : List Int).length ≤ 140737488355328 := by simp; omega
          generalize hgy : fnL G i = y at *
          have hOq : OwnB (wr.drewN nq) w.heap.size u3 P := OwnG.since hO (hSi.drewN nq)
          clear hfo hf6 hgy HEND
          go_wp2_with (at_builtin; refine wpList_append_b rfl _ _ rfl ((hT.drewN nq).alloc _) u3 P rfl (OwnG.alloc hOq _) _ _ _ _ [y + 8, ((r - 1 : Nat) : Int)] rfl rfl (rdb_new _ _ rfl _ _ _ rfl) hlen2 ?_; intro v7 w7 hO7 hS7)
          go_roundw
          case rel => exact ⟨i + r, P ++ [y + 8, ((r - 1 : Nat) : Int)], by omega, by first | rfl | go_num, hO7, by rw [List.length_append]; simp; omega, hS7, by rw [← HR.out, HRW.out, if_neg (by omega), List.append_assoc]⟩
          case measure => simp [intOf]; omega
        · have d1 : decide ((r : Int) < 256) = true := by simp; omega
          by_cases hb : i + r = m
          · have d2 : decide (((i + r : Nat) : Int) < (m : Int)) = false := by simp; omega
            have HEND : r = 256 ∨ i + r = G.length ∨ fnL G (i + r) ≠ fnL G i := .inr (.inl (by rw [hb]; exact HM.out))
            have hb' : (i : Int) + (r : Int) = m := by omega
            go_wp2
            go_quiet (fail)
            by_cases hr0 : r = 1
            · obtain rfl : r = 1 := by omega
              have HRW := Lib.hid (rle7_row (G := G) (i := i) (r := 1) hiG hr1 hr2 (by have := HM.out; omega) HS.out HEND)
              have hwb : IntKind.u8.wrap (fnL G i) = fnL G i := by rw [IntKind.wrap_u8]; have := hfo.1; have := hfo.2.1; omega
              have hlen1 : P.length + ([fnL G i] : List Int).length ≤ 140737488355328 := by simp; omega
              generalize hgy : fnL G i = y at *
              have hOq : OwnB (wr.drewN nq) w.heap.size u3 P := OwnG.since hO (hSi.drewN nq)
              clear hfo hf6 hgy HEND
              go_wp2_with (at_builtin; refine wpList_append_b rfl _ _ rfl ((hT.drewN nq).alloc _) u3 P rfl (OwnG.alloc hOq _) _ _ _ _ [y] rfl rfl (rdb_new _ _ rfl _ _ _ rfl) hlen1 ?_; intro v7 w7 hO7 hS7)
              go_roundw
              case rel => exact ⟨i + 1, P ++ [y], by omega, by first | rfl | go_num, hO7, by rw [List.length_append]; simp; omega, hS7, by rw [← HR.out, HRW.out, if_pos rfl, List.append_assoc]⟩
              case measure => simp [intOf]; omega
            · have hr9 : ¬ (r : Int) = 1 := by omega
              have HRW := Lib.hid (rle7_row (G := G) (i := i) (r := r) hiG hr1 hr2 (by have := HM.out; omega) HS.out HEND)
              have ho8 := or8 hfo hf6
              have hwb : IntKind.u8.wrap (fnL G i + 8) = fnL G i + 8 := by rw [IntKind.wrap_u8]; have := hfo.1; omega
              have hwr : IntKind.i64.wrap ((r : Int) - 1) = ((r - 1 : Nat) : Int) := by rw [IntKind.wrap_i64]; omega
              have hwc : IntKind.u8.wrap ((r - 1 : Nat) : Int) = ((r - 1 : Nat) : Int) := by rw [IntKind.wrap_u8]; omega
              have hlen2 : P.length + ([fnL G i + 8, ((r - 1 : Nat) : Int)] : List Int).length ≤ 140737488355328 := by simp; omega
              generalize hgy : fnL G i = y at *
              have hOq : OwnB (wr.drewN nq) w.heap.size u3 P := OwnG.since hO (hSi.drewN nq)
              clear hfo hf6 hgy HEND
              go_wp2_with (at_builtin; refine wpList_append_b rfl _ _ rfl ((hT.drewN nq).alloc _) u3 P rfl (OwnG.alloc hOq _) _ _ _ _ [y + 8, ((r - 1 : Nat) : Int)] rfl rfl (rdb_new _ _ rfl _ _ _ rfl) hlen2 ?_; intro v7 w7 hO7 hS7)
              go_roundw
              case rel => exact ⟨i + r, P ++ [y + 8, ((r - 1 : Nat) : Int)], by omega, by first | rfl | go_num, hO7, by rw [List.length_append]; simp; omega, hS7, by rw [← HR.out, HRW.out, if_neg (by omega), List.append_assoc]⟩
              case measure => simp [intOf]; omega
          · have d2 : decide (((i + r : Nat) : Int) < (m : Int)) = true := by simp; omega
            have s2 := (hSi.1 _ _ gl2).trans (HGC.out (i + r) (by omega))
            simp only [I64, IntRow] at s2
            have hb' : i + r < m := by omega
            have hb'' : (i : Int) + (r : Int) < m := by omega
            by_cases hc : fnL G (i + r) = fnL G i
            · rw [hc] at s2
              have HS2 := Lib.hid (show ∀ t, t < r + 1 → fnL G (i + t) = fnL G i from fun t ht => by
                by_cases e : t = r
                · subst e; exact hc
                · exact HS.out t (by omega))
              have hwr : IntKind.i64.wrap ((r : Int) + 1) = (r : Int) + 1 := by rw [IntKind.wrap_i64]; omega
              generalize fnL G i = y at *
              clear hc
              go_wp2
              go_quiet (fail)
              go_wp2_with fail
              go_roundw
              case rel => exact ⟨r + 1, by omega, by omega, by omega, by first | rfl | go_num, by (repeat (first | with_reducible (exact Since.refl _) | with_reducible assumption | with_reducible (refine Since.drew ?_) | with_reducible (refine Since.drewN ?_ _) | with_reducible (refine Since.alloc ?_ _) | (with_reducible (refine Since.setCell ?_ ?_ _); rotate_left; focus (first | (simp; done) | (simp; omega) | omega)) | (with_reducible (refine Since.trans ?_ (by with_reducible assumption))))), HS2⟩
              case measure => simp [intOf]; omega
            · have HEND : r = 256 ∨ i + r = G.length ∨ fnL G (i + r) ≠ fnL G i := .inr (.inr hc)
              have d3 : (fnL G (i + r) == fnL G i) = false := by simpa using hc
              obtain ⟨z, hz⟩ : ∃ z, z = fnL G (i + r) := ⟨_, rfl⟩
              rw [← hz] at s2 d3
              clear hz
              go_wp2
              go_quiet (fail)
              by_cases hr0 : r = 1
              · obtain rfl : r = 1 := by omega
                have HRW := Lib.hid (rle7_row (G := G) (i := i) (r := 1) hiG hr1 hr2 (by have := HM.out; omega) HS.out HEND)
                have hwb : IntKind.u8.wrap (fnL G i) = fnL G i := by rw [IntKind.wrap_u8]; have := hfo.1; have := hfo.2.1; omega
                have hlen1 : P.length + ([fnL G i] : List Int).length ≤ 140737488355328 := by simp; omega
                generalize hgy : fnL G i = y at *
                have hOq : OwnB (wr.drewN nq) w.heap.size u3 P := OwnG.since hO (hSi.drewN nq)
                clear hfo hf6 hgy HEND hc
                go_wp2_with (at_builtin; refine wpList_append_b rfl _ _ rfl ((hT.drewN nq).alloc _) u3 P rfl (OwnG.alloc hOq _) _ _ _ _ [y] rfl rfl (rdb_new _ _ rfl _ _ _ rfl) hlen1 ?_; intro v7 w7 hO7 hS7)
                go_roundw
                case rel => exact ⟨i + 1, P ++ [y], by omega, by first | rfl | go_num, hO7, by rw [List.length_append]; simp; omega, hS7, by rw [← HR.out, HRW.out, if_pos rfl, List.append_assoc]⟩
                case measure => simp [intOf]; omega
              · have hr9 : ¬ (r : Int) = 1 := by omega
                have HRW := Lib.hid (rle7_row (G := G) (i := i) (r := r) hiG hr1 hr2 (by have := HM.out; omega) HS.out HEND)
                have ho8 := or8 hfo hf6
                have hwb : IntKind.u8.wrap (fnL G i + 8) = fnL G i + 8 := by rw [IntKind.wrap_u8]; have := hfo.1; omega
                have hwr : IntKind.i64.wrap ((r : Int) - 1) = ((r - 1 : Nat) : Int) := by rw [IntKind.wrap_i64]; omega
                have hwc : IntKind.u8.wrap ((r - 1 : Nat) : Int) = ((r - 1 : Nat) : Int) := by rw [IntKind.wrap_u8]; omega
                have hlen2 : P.length + ([fnL G i + 8, ((r - 1 : Nat) : Int)] : List Int).length ≤ 140737488355328 := by simp; omega
                generalize hgy : fnL G i = y at *
                have hOq : OwnB (wr.drewN nq) w.heap.size u3 P := OwnG.since hO (hSi.drewN nq)
                clear hfo hf6 hgy HEND hc
                go_wp2_with (at_builtin; refine wpList_append_b rfl _ _ rfl ((hT.drewN nq).alloc _) u3 P rfl (OwnG.alloc hOq _) _ _ _ _ [y + 8, ((r - 1 : Nat) : Int)] rfl rfl (rdb_new _ _ rfl _ _ _ rfl) hlen2 ?_; intro v7 w7 hO7 hS7)
                go_roundw
                case rel => exact ⟨i + r, P ++ [y + 8, ((r - 1 : Nat) : Int)], by omega, by first | rfl | go_num, hO7, by rw [List.length_append]; simp; omega, hS7, by rw [← HR.out, HRW.out, if_neg (by omega), List.append_assoc]⟩
                case measure => simp [intOf]; omega
    · obtain rfl : i = m := by omega
      have e0 : P = rle7 G := by
        have h1 : G.drop i = [] := List.drop_eq_nil_of_le (by rw [← HM.out]; omega)
        have h2 := HR.out
        rw [h1, rle7_nil, List.append_nil] at h2
        exact h2
      rw [e0] at hO
      clear e0
      go_wp2_with fail
      go_ret
      exact ⟨_, rfl, hO, hS⟩
end Go.Proofs.Ytpplnapfpoloiaa
