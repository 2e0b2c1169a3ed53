/-
  Layer 17: 'near', walked.
-/
import Derived.Test.YtcfghkphkmoikaaGreatSnT
namespace Go.Proofs.YtcfghkphkmoikaaGreat
set_option maxRecDepth 100000
open Go.RowKit Go.Sort
set_option linter.unusedVariables false
theorem lvl_le (P : List Pq) : ∀ k, (lvl P k).length ≤ P.length
  | 0 => by rw [lvl_len]; simp; omega
  | k + 1 => by
    have := lvl_le P k
    rw [lvl_len]; simp; omega
theorem cntL_le (P : List Pq) : ∀ k, cntBx P k ≤ P.length
  | 0 => Nat.le_refl _
  | k + 1 => lvl_le P k
theorem cntL_pos {P : List Pq} (h : 0 < P.length) : ∀ k, 0 < cntBx P k
  | 0 => h
  | k + 1 => lvl_pos (List.ne_nil_of_length_pos h) k
set_option maxRecDepth 100000 in
set_option maxHeartbeats 8000000 in
theorem sn_near (l : Ln) (hg : (goodB l.ax l.ay && goodB l.bx l.bz) = true) (w : World) (bt m : Nat) (P : List Pq) (hT : TreeR w w.heap.size bt P m) (hP : ∀ p ∈ P, PixOk p) (hPl : P.length ≤ 100000000) (hm : m ≤ 100000000) :
    Calls Tryz.prog 38 #[.pointer (some ⟨bt, 0, none⟩), l.v] w fun e w' => ∃ v, e = .returned v ∧ OwnG 23 2 ptL w' w.heap.size v (srL l P m 0) ∧ Since w w' := by
  have hF := sn_find l hg w bt m P hT hP hPl hm m (Nat.le_refl _)
  obtain ⟨hbt, ⟨A, c, t0, _⟩, A', c', hs, t1, _⟩ := id hT
  have hLn := fun w b hb t => ln_new w b hb l t
  obtain ⟨N, hN⟩ : ∃ N, N = P.length := ⟨_, rfl⟩
  rw [← hN] at t0 hPl
  unfold Ln.v
  have HF := Lib.hid hF; have HL := Lib.hid hLn; have HN := Lib.hid hN
  clear hF hLn hN hP hg
  go_enter Tryz.func38, Tryz.ntmps38
  go_upto_region 4 with fail
  refine wp_named fun wa hwa => ?_
  have hS : Since w wa := by subst hwa; (repeat (first | with_reducible (exact Since.refl _) | with_reducible assumption | with_reducible (refine Since.drew ?_) | with_reducible (refine Since.drewN ?_ _) | with_reducible (refine Since.alloc ?_ _) | (with_reducible (refine Since.setCell ?_ ?_ _); rotate_left; focus (first | (simp; done) | (simp; omega) | omega)) | (with_reducible (refine Since.trans ?_ (by with_reducible assumption)))))
  have hz : wa.heap.size = w.heap.size + 4 := by subst hwa; simp
  have hNS : NS w bt l [] wa := by
    obtain ⟨w1, hw1⟩ : ∃ w1, w1 = w.alloc (.cells #[.pointer (some ⟨bt, 0, none⟩)] 75) := ⟨_, rfl⟩
    rw [← hw1] at hwa
    obtain ⟨w2, hw2⟩ : ∃ w2, w2 = w1.alloc (.cells #[.int .i64 l.ax, .int .i64 l.ay, .int .i64 l.bx, .int .i64 l.bz] 25) := ⟨_, rfl⟩
    rw [← hw2] at hwa
    obtain ⟨w3, hw3⟩ : ∃ w3, w3 = w2.alloc (.cells #[.slice none 0 0] 28) := ⟨_, rfl⟩
    rw [← hw3] at hwa
    have z1 : w1.heap.size = w.heap.size + 1 := by rw [hw1]; simp
    have z2 : w2.heap.size = w.heap.size + 2 := by rw [hw2]; simp [z1]
    have z3 : w3.heap.size = w.heap.size + 3 := by rw [hw3]; simp [z2]
    have s3 : Since w3 wa := by rw [hwa]; exact (Since.refl _).alloc _
    have s2 : Since w2 wa := Since.trans (by rw [hw3]; exact (Since.refl _).alloc _) s3
    have s1 : Since w1 wa := Since.trans (by rw [hw2]; exact (Since.refl _).alloc _) s2
    refine ⟨(s1.1 _ _ (by omega)).trans ?_, LnAt.since ?_ s2, ⟨.slice none 0 0, (s3.below.block _ (by omega)).trans ?_, OwnG.nil _ _ _ _ _⟩, ?_, hS, by omega⟩
    · rw [hw1, World.cell?_alloc_new]; rfl
    · rw [hw2]; exact HL.out w1 _ z1.symm _
    · rw [hw3, ← z2]; exact World.alloc_heap_new w2 _
    · rw [hwa, ← z3, World.cell?_alloc_new]; rfl
  have t0 := (hS.1 _ _ hbt).trans t0
  have t1 := (hS.1 _ _ hbt).trans t1
  have hbt := hS.2.2.1 _ hbt
  have c0 := hNS.t
  have c1 := hNS.s
  have q0 : w.heap.size < wa.heap.size := by omega
  have q3 : w.heap.size + 3 < wa.heap.size := by omega
  have HNS := Lib.hid hNS; have HS := Lib.hid hS
  clear hwa hNS hS hT hz
  by_cases h0 : 0 < N
  · have hI : ∀ (W : World) (h : NS w bt l [] W), Calls Tryz.prog 71 #[.int .i64 (m : Int), .int .i64 0, .pointer (some ⟨w.heap.size, 0, none⟩), .pointer (some ⟨w.heap.size + 1, 0, none⟩), .pointer (some ⟨w.heap.size + 2, 0, none⟩), .pointer (some ⟨w.heap.size + 3, 0, none⟩)] W fun e W' => (∃ u, e = .returned u) ∧ NS w bt l ([] ++ srL l P m 0) W' := fun W h => HF.out 0 (cntL_pos (by rw [← HN.out]; exact h0) m) W [] h (List.nil_sublist _)
    have HI := Lib.hid hI
    have n0 : (0 : Int) < (N : Int) := by omega
    clear hI
    go_upto_region 5 with fail
    go_region_with (go_at_call 71; (with_reducible refine (HI.out _ (HNS.out.since (by (repeat (first | with_reducible (exact Since.refl _) | with_reducible assumption | with_reducible (refine Since.drew ?_) | with_reducible (refine Since.drewN ?_ _) | with_reducible (refine Since.alloc ?_ _) | (with_reducible (refine Since.setCell ?_ ?_ _); rotate_left; focus (first | (simp; done) | (simp; omega) | omega)) | (with_reducible (refine Since.trans ?_ (by with_reducible assumption)))))))).mono ?_); rintro e w6 ⟨⟨u6, rfl⟩, hN6⟩; have c6 := hN6.f; obtain ⟨v6, hv6, hO6⟩ := c6; have c7 := Boxed.cell hv6; have hS6 := hN6.sn)
    all_goals go_wp2
    all_goals go_ret
    all_goals exact ⟨_, rfl, OwnG.lower' (by simpa using hO6) (by omega), hS6⟩
  · obtain rfl : N = 0 := by omega
    have hnone : srL l P m 0 = [] := srL_none l P (by have := cntL_le P m; rw [← HN.out] at this; exact this)
    obtain ⟨v6, hv6, hO6⟩ := HNS.out.f
    have c7 := Boxed.cell hv6
    have HNO := Lib.hid hnone
    clear hnone
    go_wp2
    go_ret
    exact ⟨_, rfl, by rw [HNO.out]; exact OwnG.lower' hO6 (by omega), HS.out⟩
end Go.Proofs.YtcfghkphkmoikaaGreat
