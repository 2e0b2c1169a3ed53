/-
  Layer 7: Copy of an outline, its rows of the call's own; what the copies keep while their box is written.
-/
import Derived.Test.YtpplnapfpoloiaaOuZ
import Derived.Test.YtpplnapfpoloiaaSiW
namespace Go.Proofs.Ytpplnapfpoloiaa
open Go.RowKit Go.ChangeShapes Go.WideShapes Go.Deep
set_option linter.unusedVariables false
set_option linter.unusedSimpArgs false

set_option maxRecDepth 100000 in
set_option maxHeartbeats 8000000 in
theorem rf_copyO (A : Option Addr) (c : Nat) (LL : List (List Kt)) (w : World) (h : RdOL w w.heap.size A LL) (hn : LL.length ≤ 1000000) (hm : ∀ L, L ∈ LL → L.length ≤ 1000000) :
    Calls Try.prog 37 #[.slice A LL.length c] w fun e w' => ∃ A' c', e = .returned (.slice A' LL.length c') ∧ OwnO w' w.heap.size (.slice A' LL.length c') LL ∧ Since w w' := by
  obtain ⟨N, hN⟩ : ∃ N, N = LL.length := ⟨_, rfl⟩
  rw [← hN] at hn ⊢
  have HN := Lib.hid hN
  have HM := Lib.hid hm
  clear hN hm
  go_enter Try.func37, Try.ntmps37
  go_wp2_with fail
  go_loopw [3, 8] (fun v y wr => ∃ (j : Nat), j ≤ N ∧ y = .int .i64 (j : Int) ∧ OwnO wr w.heap.size v (LL.take j) ∧ Since w wr) (fun _ y _ => N - (intOf y).toNat)
  case atStart => exact ⟨0, by omega, rfl, OwnO.nil _ _, Since.refl _⟩
  case round =>
    obtain ⟨j, hj, rfl, hO, hS⟩ := hrel
    by_cases hjn : j < N
    · have hjn' : (j : Int) < N := by omega
      have hjL : j < LL.length := by rw [← HN.out]; exact hjn
      have hL : LL[j]? = some LL[j] := List.getElem?_eq_getElem hjL
      have hml := HM.out _ (List.mem_of_getElem? hL)
      have htk : LL.take (j + 1) = LL.take j ++ [LL[j]] := List.take_succ_eq_append_getElem hjL
      have HTK := Lib.hid htk
      have hlt : (LL.take j).length ≤ 1000000 := by rw [List.length_take]; omega
      clear htk
      generalize LL[j] = L at *
      obtain ⟨b, o, A', c', rfl, hb, hcell, hK⟩ := h.row hL
      have c1 := (hS.1 _ _ hb).trans hcell
      have hbw := hS.2.2.1 _ hb
      have hK := (hK.since (Nat.le_refl _) hS).more hS.below.size
      have hwz := hS.below.size
      clear hL h hcell hjL
      generalize LL.take j = LJ at *
      go_wp2_with (first | (at_builtin; refine wpList_append_g rfl (.tmp 13) (.tmp 14) 71 76 rfl (by omega) knL_len knL_one 24 Try.underlying71 infoKn w.heap.size _ [] rfl (OwnG.empty _ wr w.heap.size _ rfl hwz) _ A' c' L rfl (hK.on ((Since.refl wr).alloc _)) ?_ ?_ ?_ ?_; (focus (rw [List.length_nil]; omega)); (focus (rw [List.length_nil]; simp only [maxLen]; omega)); (focus (simp; omega)); intro v7 w7 hO7 hg7 hb7; have hS7 : Since wr w7 := (since_grown ((Since.refl wr).alloc _) hg7 (fun q hq => Nat.le_of_eq (Option.some.inj hq))); rw [List.nil_append] at hO7; obtain ⟨A7, c7, rfl, hc7, hr7⟩ := hO7.rd (by omega) knL_len; have hOO := hO.since hS7; have hwz7 := hS7.below.size; clear hr7 hg7 hb7) | (at_builtin; refine wpList_append_hd rfl _ _ rfl w.heap.size _ LJ rfl hOO _ 1 A7 L.length c7 L rfl _ rfl hO7 hlt (by omega) ?_; intro v8 w8 hO8 hg8 hb8; have hS8 : Since w w8 := (since_grown ((hS.trans hS7).alloc _) hg8 (fun q hq => (hb8 q hq).1))))
      go_roundw
      case rel => exact ⟨j + 1, by omega, by go_num, by rw [HTK.out]; exact hO8, hS8⟩
      case measure => simp [intOf]; omega
    · obtain rfl : N = j := by omega
      have e : LL.take N = LL := by rw [HN.out]; exact List.take_length
      rw [e] at hO
      obtain ⟨A', c', rfl, hc', hr⟩ := hO.rd
      have HOO := Lib.hid hO
      rw [← HN.out]
      go_wp2_with fail
      go_ret
      exact ⟨A', c', rfl, (by have := HOO.out; rw [← HN.out] at this; exact this), hS⟩

theorem two_sn {w w' : World} {u v : Value} {t : TypeId} (h : Since (w.alloc (.cells #[u, v] t)) w') : Two w' w.heap.size u v := (two_new w _ rfl u v t).since h
theorem two_sd {w w' : World} {u v : Value} {t : TypeId} (h : Since (w.drew.alloc (.cells #[u, v] t)) w') : Two w' w.heap.size u v := (two_new w.drew _ rfl u v t).since h
/-- Both cells of a block of two written. -/
def set2 (w : World) (b : Nat) (u v : Value) : World := (w.setCell ⟨b, 0, none⟩ u).setCell ⟨b, 1, none⟩ v
theorem two_put {w : World} {b : Nat} {u0 v0 : Value} (h : Two w b u0 v0) (u v : Value) : Two (set2 w b u v) b u v := by
  obtain ⟨h1, h2, h3, h4, h5⟩ := h
  unfold set2
  refine ⟨?_, ?_, (World.frozen?_setCell _ _ _ _).trans ((World.frozen?_setCell _ _ _ _).trans h3), (World.frozen?_setCell _ _ _ _).trans ((World.frozen?_setCell _ _ _ _).trans h4), by simpa [World.setCell] using h5⟩
  · rw [cell_set, if_neg (by omega), cell_set, if_pos ⟨rfl, rfl⟩, h1]; rfl
  · rw [cell_set, if_pos ⟨rfl, rfl⟩, cell_set, if_neg (by omega), h2]; rfl
theorem set2_but (w : World) (b : Nat) (u v : Value) : KeepBut b w (set2 w b u v) := ((KeepBut.refl b w).set 0 u).set 1 v
theorem set2_since {w w' : World} {b : Nat} (k : Since w w') (hb : w.heap.size ≤ b) (u v : Value) : Since w (set2 w' b u v) := (k.setCell hb u).setCell hb v
theorem ownO_rdv {w : World} {base n c : Nat} {A : Option Addr} {LL : List (List Kt)} (h : OwnO w base (.slice A n c) LL) : RdOL w w.heap.size A LL := by
  obtain ⟨A', c', e, _, hr⟩ := h.rd
  injection e with e1 e2 e3
  rw [e1]; exact hr
theorem copy_rdO {w4 w5 : World} {base b n c : Nat} {A : Option Addr} {LL : List (List Kt)} (hO : OwnO w4 base (.slice A n c) LL) (k : Since w4 w5) (hb : b < base ∨ w4.heap.size ≤ b) (u v : Value) : RdOL (set2 w5 b u v) (set2 w5 b u v).heap.size A LL := by
  rcases hb with hb | hb
  · exact ownO_rdv ((hO.since k).keepB (fun x h1 h2 => (set2_but w5 b u v).2 x h2 (by omega)))
  · exact ownO_rdv (hO.since (set2_since k hb u v))
theorem copy_rdB {w4 w5 : World} {base b n c : Nat} {A : Option Addr} {L : List Int} (hO : OwnB w4 base (.slice A n c) L) (k : Since w4 w5) (hb : b < base ∨ w4.heap.size ≤ b) (u v : Value) : RdB (set2 w5 b u v) (set2 w5 b u v).heap.size A L := by
  rcases hb with hb | hb
  · exact own_rdv (by omega) byL_len (OwnG.keep (OwnG.since hO k) (fun x h1 h2 => (set2_but w5 b u v).2 x h2 (by omega)))
  · exact own_rdv (by omega) byL_len (OwnG.since hO (set2_since k hb u v))
end Go.Proofs.Ytpplnapfpoloiaa
