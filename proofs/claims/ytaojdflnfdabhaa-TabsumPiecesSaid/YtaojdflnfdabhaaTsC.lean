/-
  Layer 3: the laws TabsumPads and TabsumTurns, walked.
-/
import Derived.Test.YtaojdflnfdabhaaTsB
import Derived.Test.YtaojdflnfdabhaaKit7
import Derived.StillTailTactics
namespace Go.Proofs.Ytaojdflnfdabhaa
open Go.RowKit
set_option linter.unusedVariables false

def catG (n : Nat) (f o : Nat → Int) (j : Nat) : Int := if j < n then f j else o (j - n)
theorem own_catG {w : World} {B g cap n m : Nat} {f o : Nat → Int} (h : w.ownsRow B 5 1 (.slice (some ⟨g, 0, none⟩) (n + m) cap) (n + m) (tab n (U8 f) ++ tab m (U8 o))) : Own w B g cap (n + m) (catG n f o) := by
  rw [tab_append] at h
  have e : (fun j => if j < n then U8 f j else U8 o (j - n)) = U8 (catG n f o) := by
    funext j
    simp only [U8, IntRow, catG]
    split <;> rfl
  rw [e] at h
  exact h
theorem catG_range {n m : Nat} {f o : Nat → Int} (hf : ∀ j, j < n → 0 ≤ f j ∧ f j ≤ 255) (ho : ∀ j, j < m → 0 ≤ o j ∧ o j ≤ 255) : ∀ j, j < n + m → 0 ≤ catG n f o j ∧ catG n f o j ≤ 255 := fun j hj => by
  unfold catG
  split
  · exact hf j (by assumption)
  · exact ho _ (by omega)

set_option maxHeartbeats 4000000 in
theorem walk_pads (A : Option Addr) (n c : Nat) (f : Nat → Int) (x : Int) (w : World) (h : Rd w w.heap.size A n (U8 f)) (hf : ∀ j, j < n → 0 ≤ f j ∧ f j ≤ 255) (hx : 0 ≤ x ∧ x ≤ 255) (hn : n ≤ 140737488355328) :
    Calls Try.prog 10 #[.slice A n c, .int .u8 x] w fun e w' => e = .returned (.bool true) ∧ Since w w' := by
  obtain ⟨i0, hi0, hz0, hz1, hz2⟩ := info_parts Try.info_u8
  obtain ⟨m, rfl⟩ : ∃ m : Nat, x = m := ⟨x.toNat, by omega⟩
  by_cases hbig : (5000 : Int) < n
  · have d1 : decide ((5000 : Int) < n) = true := by simpa using hbig
    clear h hf
    go_enter Try.func10, Try.ntmps10
    go_wp2_with (go_at_call 28; refine (alive03 _).mono ?_; rintro e w1 ⟨rfl, hS1⟩)
    go_ret
    exact ⟨rfl, hS1⟩
  · have d1 : decide ((5000 : Int) < n) = false := by simpa using hbig
    have hm : m ≤ 255 := by omega
    have b1 : 1 * m ≤ 281474976710656 := by omega
    have b2 : m ≤ maxLen := by simp only [maxLen]; omega
    have b3 : (n + m) * 1 ≤ 140737488355328 := by omega
    have b4 : n + m ≤ maxLen := by simp only [maxLen]; omega
    have HC := Lib.hid (show accu 0 (catG n f (fun _ => 0)) (n + m) = accu 0 f n by
      rw [accu_pad (by omega) (fun j h1 h2 => by unfold catG; rw [if_neg (by omega)])]
      exact accu_congr fun j hj => by unfold catG; rw [if_pos hj])
    have hfr := catG_range (m := m) (o := fun _ => 0) hf (fun _ _ => by omega)
    clear hbig
    go_enter Try.func10, Try.ntmps10
    go_wp2_with (first | (go_at_call 28; refine (alive03 _).mono ?_; rintro e w1 ⟨rfl, hS1⟩; have h1 := h.on hS1) | (go_at_call 14; refine (ref_copy A n c f w1 h1 hn).mono ?_; rintro e w2 ⟨g2, c2, rfl, hown2, hS2⟩) | (at_builtin; have q5 : w1.heap.size ≤ w2.heap.size := hS2.below.size; have hg2 := hown2.base; refine wpList_append_zeros _ (by rfl) _ _ _ _ (by rfl) w1.heap.size 5 i0 .u8 1 Try.underlying22 Try.underlying3 hi0 hz0 hz1 hz2 g2 c2 n m (U8 f) (by rfl) (by rfl) hown2 b3 b4 q5 ?_; intro g4 c4 w4 hown4 hgr4 hat4; have hO4 := own_catG hown4; have hR4 := Rd.of_row hO4.row; have hS14 := since_grown hS2 hgr4 (fun k hk => by injection hk with hk; omega); have h4 := h1.on hS14; have hS := hS1.trans hS14; clear q5 hown4 hgr4 hat4 hO4 hS2 hS14 hown2; have tok := True.intro) | (go_at_call 29; have _t := tok; refine (ts_sum _ (n + m) _ _ w4 hR4 hfr (by omega)).mono ?_; rintro e w4 ⟨rfl, rfl⟩; rw [HC.out]; clear tok) | (go_at_call 29; refine (ts_sum _ n _ f w4 h4 hf hn).mono ?_; rintro e w4 ⟨rfl, rfl⟩))
    go_ret
    exact ⟨by first | rfl | simp, hS⟩

def setG (i : Nat) (v : Int) (f : Nat → Int) (j : Nat) : Int := if j = i then v else f j
set_option maxHeartbeats 4000000 in
theorem walk_turns (A : Option Addr) (n c : Nat) (f : Nat → Int) (x y : Int) (w : World) (h : Rd w w.heap.size A n (U8 f)) (hf : ∀ j, j < n → 0 ≤ f j ∧ f j ≤ 255) (hx : 0 ≤ x ∧ x ≤ 65535) (hy : 0 ≤ y ∧ y ≤ 255) (hn : n ≤ 140737488355328) :
    Calls Try.prog 12 #[.slice A n c, .int .u16 x, .int .u8 y] w fun e w' => e = .returned (.bool true) ∧ Since w w' := by
  by_cases hz : n = 0
  · subst hz
    clear h hf
    go_enter Try.func12, Try.ntmps12
    go_wp2_with (go_at_call 28; refine (alive03 _).mono ?_; rintro e w1 ⟨rfl, hS1⟩)
    go_ret
    exact ⟨rfl, hS1⟩
  have d0 : ((n : Int) == 0) = false := by simpa using hz
  by_cases hbig : (5000 : Int) < n
  · have d1 : decide ((5000 : Int) < n) = true := by simpa using hbig
    clear h hf hz
    go_enter Try.func12, Try.ntmps12
    go_wp2_with (go_at_call 28; refine (alive03 _).mono ?_; rintro e w1 ⟨rfl, hS1⟩)
    go_ret
    exact ⟨rfl, hS1⟩
  have d1 : decide ((5000 : Int) < n) = false := by simpa using hbig
  by_cases hy0 : y = 0
  · subst hy0
    clear h hf hz hbig
    go_enter Try.func12, Try.ntmps12
    go_wp2_with (go_at_call 28; refine (alive03 _).mono ?_; rintro e w1 ⟨rfl, hS1⟩)
    go_ret
    exact ⟨rfl, hS1⟩
  · have d2 : (y == 0) = false := by simpa using hy0
    obtain ⟨k, rfl⟩ : ∃ k : Nat, x = k := ⟨x.toNat, by omega⟩
    have hi : k % n < n := Nat.mod_lt _ (by omega)
    have hii : (k : Int) % (n : Int) = ((k % n : Nat) : Int) := by omega
    generalize k % n = i at hi hii
    have hii' : (i : Int) < n := by omega
    have hfi := hf i hi
    have hne : accu 0 (setG i ((f i + y) % 256) f) n ≠ accu 0 f n := accu_differs (i := i) (v := y) (fun j hj => by unfold setG; rw [if_neg hj]) hi hfi (by omega) (by unfold setG; rw [if_pos rfl])
    have hb : (accu 0 (setG i ((f i + y) % 256) f) n != accu 0 f n) = true := by simpa using hne
    have HB := Lib.hid hb
    have hfr : ∀ j, j < n → 0 ≤ setG i ((f i + y) % 256) f j ∧ setG i ((f i + y) % 256) f j ≤ 255 := fun j hj => by
      have := hf j hj
      unfold setG
      split <;> omega
    clear hbig hy0 hne hb
    have hk1 : IntKind.i64.wrap (k : Int) = k := IntWalk.i64_in _ (by omega)
    have hk2 : (k : Int).tmod (n : Int) = i := by rw [Int.tmod_eq_emod_of_nonneg (by omega)]; exact hii
    have hk3 : IntKind.i64.wrap (i : Int) = i := IntWalk.i64_in _ (by omega)
    have hk4 : IntKind.u8.wrap (f i + y) = (f i + y) % 256 := IntKind.wrap_u8 _
    have hk5 : (0 : Int) ≤ i := by omega
    clear hii
    go_enter Try.func12, Try.ntmps12
    go_wp2_with (first | (go_at_call 28; refine (alive03 _).mono ?_; rintro e w1 ⟨rfl, hS1⟩; have h1 := h.on hS1) | (go_at_call 14; refine (ref_copy A n c f w1 h1 hn).mono ?_; rintro e w2 ⟨g2, c2, rfl, hown2, hS2⟩; have hR := hown2.row; have hg2 := hown2.base; have hcell : w2.cell? ⟨g2, i, none⟩ = some (.int .u8 (f i)) := hR.1 i hi; have hfz := hR.2.1 i; clear hown2))
    go_still_tail 17, (by kernel_rfl)
    change wpList _ _ _ _ _ w2.drew
    generalize hwd : w2.drew = w3
    have hR3 : Row w3 g2 n (U8 f) := by rw [← hwd]; exact hR.drew
    have hS3 : Since w w3 := by rw [← hwd]; exact (hS1.trans hS2).drew
    have hB1 : w.heap.size ≤ w1.heap.size := hS1.below.size
    have h3 : Rd w3 w1.heap.size A n (U8 f) := by rw [← hwd]; exact (h1.since (Nat.le_refl _) hS2).drew
    have hR4 : Row (w3.setCell ⟨g2, i, none⟩ (.int .u8 ((f i + y) % 256))) g2 n (U8 (setG i ((f i + y) % 256) f)) := (hR3.set i _).congr fun j hj => by simp only [U8, IntRow, setG]; split <;> rfl
    have h4 : Rd (w3.setCell ⟨g2, i, none⟩ (.int .u8 ((f i + y) % 256))) w1.heap.size A n (U8 f) := h3.setCell (p := ⟨g2, i, none⟩) hg2 _
    have hS4 : Since w (w3.setCell ⟨g2, i, none⟩ (.int .u8 ((f i + y) % 256))) := hS3.setCell (p := ⟨g2, i, none⟩) (show w.heap.size ≤ g2 by omega) _
    have h5 : Rd (w3.setCell ⟨g2, i, none⟩ (.int .u8 ((f i + y) % 256))) (w3.setCell ⟨g2, i, none⟩ (.int .u8 ((f i + y) % 256))).heap.size A n (U8 f) := h4.more (by have e1 : w1.heap.size ≤ w3.heap.size := by { rw [← hwd]; exact hS2.below.size }; simpa [World.setCell] using e1)
    have h6 := Rd.of_row hR4
    have hc3 : w3.cell? ⟨g2, i, none⟩ = some (.int .u8 (f i)) := hR3.1 i hi
    have hf3 := hR3.2.1 i
    clear hwd hR hcell hfz hS1 hS2 h1 h4 hR4 hR3 h3 hS3
    have tok := True.intro
    go_wp2_with (first | (go_at_call 29; have _t := tok; refine (ts_sum _ n _ _ _ h6 hfr hn).mono ?_; rintro e w4 ⟨rfl, rfl⟩; clear tok) | (go_at_call 29; refine (ts_sum _ n _ f _ h5 hf hn).mono ?_; rintro e w5 ⟨rfl, rfl⟩))
    go_ret
    exact ⟨by rw [← HB.out]; rfl, hS4⟩
end Go.Proofs.Ytaojdflnfdabhaa
