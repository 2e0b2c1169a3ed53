/-
  Layer 2: the laws BeReads and BePuts, walked.
-/
import Derived.Test.YtaojdflnfdabhaaBeI
import Derived.Test.YtaojdflnfdabhaaBeE
namespace Go.Proofs.Ytaojdflnfdabhaa
open Go.RowKit
set_option linter.unusedVariables false

set_option maxHeartbeats 4000000 in
theorem walk_reads (A : Option Addr) (n c : Nat) (f : Nat → Int) (i k : Int) (w : World) (h : Rd w w.heap.size A n (U8 f)) (hf : ∀ j, j < n → 0 ≤ f j ∧ f j ≤ 255) (hi : In64 i) (hk : In64 k) (hn : n ≤ 140737488351232) :
    Calls Try.prog 3 #[.slice A n c, .int .i64 i, .int .i64 k] w fun e w' => e = .returned (.bool true) ∧ Since w w' := by
  go_enter Try.func3, Try.ntmps3
  go_wp2_with (first | (go_at_call 13; refine (alive02 _).mono ?_; rintro e w1 ⟨rfl, hS1⟩; have h1 := h.on hS1) | (go_at_call 14; refine (ref_copy A n c f _ h1 (by omega)).mono ?_; rintro e w2 ⟨g, cap, rfl, hown, hS2⟩; have h2 := h1.on hS2; have hI := Rd.of_row hown.row; have hS := hS1.trans hS2; clear hown hS1 hS2 h1 h) | (go_at_call 15; refine (be_u _ n _ f i k w2 hI hf hi hk (by omega)).mono ?_; rintro e w3 ⟨rfl, rfl⟩) | (go_at_call 16; refine (ref_u _ n _ f i k w3 h2 hf hi hk (by omega)).mono ?_; rintro e w4 ⟨rfl, rfl⟩) | (go_at_call 17; refine (be_s _ n _ f i k w4 hI hf hi hk (by omega)).mono ?_; rintro e w5 ⟨rfl, rfl⟩) | (go_at_call 18; refine (ref_s _ n _ f i k w5 h2 hf hi hk (by omega)).mono ?_; rintro e w6 ⟨rfl, rfl⟩) | (go_at_call 19; refine (ref_same _ _ n _ _ f f w6 hI h2 (fun _ _ => rfl)).mono ?_; rintro e w7 ⟨rfl, rfl⟩))
  go_ret
  exact ⟨rfl, hS⟩

set_option maxHeartbeats 4000000 in
theorem walk_puts (n k : Int) (w : World) (hn : In64 n) (hk : In64 k) :
    Calls Try.prog 4 #[.int .i64 n, .int .i64 k] w fun e w' => e = .returned (.bool true) ∧ Since w w' := by
  go_enter Try.func4, Try.ntmps4
  go_wp2_with (first | (go_at_call 13; refine (alive02 _).mono ?_; rintro e w1 ⟨rfl, hS1⟩) | (go_at_call 20; refine (be_put n k _ hn hk).mono ?_; rintro e w2 ⟨g, rfl, hg, hR, hS2⟩; have hS := hS1.trans hS2; clear hS1 hS2) | (go_at_call 21; refine (ref_put n k _ hn hk).mono ?_; rintro e w3 ⟨g3, rfl, hg3, hR3, hS3⟩; have h2 := Rd.of_row (hR.since hS3); have h3 := Rd.of_row hR3; have hSS := hS.trans hS3; clear hS hS3 hR hR3) | (go_at_call 19; refine (ref_same _ _ (clampW k) _ _ _ _ _ h2 h3 (fun _ _ => rfl)).mono ?_; rintro e w7 ⟨rfl, rfl⟩))
  go_ret
  exact ⟨rfl, hSS⟩
end Go.Proofs.Ytaojdflnfdabhaa
