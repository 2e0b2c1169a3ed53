/-
  Layer 9: FontKinds walked.
-/
import Derived.Test.YteckkcpnfeoehaaDoorFnQ
namespace Go.Proofs.YteckkcpnfeoehaaDoor
set_option maxRecDepth 100000
open Go.RowKit Go.ChangeShapes Go.WideShapes Go.Deep
set_option linter.unusedVariables false
set_option linter.unusedSimpArgs false

set_option maxRecDepth 1000000 in
set_option maxHeartbeats 64000000 in
theorem walk_fontkinds (A : Option Addr) (n c : Nat) (f : Nat → Int) (w : World) (hT : Tabs w) (h : Rd w w.heap.size A n (U8 f)) (hb : ∀ j, j < n → 0 ≤ f j ∧ f j ≤ 255) (hx : n ≤ 140737488355328) :
    Calls Tryd.prog 6 #[.slice A n c] w fun e w' => e = .returned (.bool true) ∧ Since w w' := by
  obtain ⟨L, hL⟩ : ∃ L, L = (List.range n).map f := ⟨_, rfl⟩
  have hn : n = L.length := by rw [hL]; simp
  have hr : RdB w w.heap.size A L := rdb_of h hn (fun j hj => by
    rw [hL]; unfold fnL
    rw [List.getD_eq_getElem?_getD, List.getElem?_map, List.getElem?_range hj]; rfl)
  have HA := Lib.hid (alive09 w hT)
  have HF := Lib.hid (fun (w2 : World) (h2 : Since w w2) => ft_kind A n c L w2 (RdG.on hr h2) hn hx)
  have HR := Lib.hid (fun (w2 : World) (h2 : Since w w2) => rf_kind A n c L w2 (RdG.on hr h2) hn hx)
  generalize kd12 L = K at *
  clear hL hn hr h hb hT hx
  go_enter Tryd.func6, Tryd.ntmps6
  go_wp2_with (first | (go_at_call 7; (with_reducible refine (HA.out).mono ?_); rintro e w1 ⟨rfl, hS1⟩) | (go_at_call 19; (with_reducible refine (HF.out _ hS1).mono ?_); rintro e w2 ⟨rfl, hS2⟩; have hS12 := hS1.trans hS2) | (go_at_call 20; (with_reducible refine (HR.out _ hS12).mono ?_); rintro e w3 ⟨rfl, hS3⟩; have hS13 := hS12.trans hS3))
  go_ret
  exact ⟨by first | rfl | simp, hS13⟩
end Go.Proofs.YteckkcpnfeoehaaDoor
