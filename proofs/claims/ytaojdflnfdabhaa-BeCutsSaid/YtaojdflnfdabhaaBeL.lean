/-
  Layer 2: the law BeCuts, walked.
-/
import Derived.Test.YtaojdflnfdabhaaBeK
namespace Go.Proofs.Ytaojdflnfdabhaa
open Go.RowKit
set_option linter.unusedVariables false

/-- A block's three numbers. -/
def Three (w : World) (b : Nat) (x y z : Int) : Prop := w.cell? ⟨b, 0, none⟩ = some (.int .i64 x) ∧ w.cell? ⟨b, 1, none⟩ = some (.int .i64 y) ∧ w.cell? ⟨b, 2, none⟩ = some (.int .i64 z) ∧ b < w.heap.size
theorem Three.since {w w' : World} {b : Nat} {x y z : Int} (h : Three w b x y z) (k : Since w w') : Three w' b x y z :=
  ⟨(k.1 _ _ h.2.2.2).trans h.1, (k.1 _ _ h.2.2.2).trans h.2.1, (k.1 _ _ h.2.2.2).trans h.2.2.1, k.2.2.1 _ h.2.2.2⟩
theorem three_new (w : World) (x y z : Int) (t : TypeId) : Three (w.alloc (.cells #[.int .i64 x, .int .i64 y, .int .i64 z] t)) w.heap.size x y z :=
  ⟨by rw [World.cell?_alloc_new]; rfl, by rw [World.cell?_alloc_new]; rfl, by rw [World.cell?_alloc_new]; rfl, by simp⟩
/-- All that came in and its copies. -/
def Four (w : World) (A B C D : Option Addr) (n m : Nat) (f o : Nat → Int) : Prop := Rd w w.heap.size A n (U8 f) ∧ Rd w w.heap.size B m (U8 o) ∧ Rd w w.heap.size C n (U8 f) ∧ Rd w w.heap.size D m (U8 o)
theorem Four.since {w w' : World} {A B C D : Option Addr} {n m : Nat} {f o : Nat → Int} (h : Four w A B C D n m f o) (k : Since w w') : Four w' A B C D n m f o := ⟨h.1.on k, h.2.1.on k, h.2.2.1.on k, h.2.2.2.on k⟩

/-- Some bytes, new since B, ahead of T, that may be written. -/
def Sp (w : World) (B T : Nat) (A : Option Addr) (n : Nat) : Prop := 0 < n → ∃ g f, A = some ⟨g, 0, none⟩ ∧ B ≤ g ∧ g < T ∧ Row w g n (U8 f)
theorem Sp.since {w w' : World} {B T n : Nat} {A : Option Addr} (h : Sp w B T A n) (k : Since w w') : Sp w' B T A n := fun hn => by
  obtain ⟨g, f, e, h1, h2, h3⟩ := h hn
  exact ⟨g, f, e, h1, h2, h3.since k⟩
theorem sp_of {w : World} {B n : Nat} {A : Option Addr} {f : Nat → Int} (h : Nw w B A n (U8 f)) : Sp w B w.heap.size A n := fun hn => by
  obtain ⟨g, e, h1, h2⟩ := h hn
  exact ⟨g, f, e, h1, h2.2.2, h2⟩
theorem row_put {w : World} {g n : Nat} {f : Nat → Int} (h : Row w g n (U8 f)) (j : Nat) (v : Int) : Row (w.setCell ⟨g, j, none⟩ (.int .u8 v)) g n (U8 (fun t => if t = j then v else f t)) :=
  (h.set j _).congr fun t ht => by simp only [U8, IntRow]; split <;> rfl
theorem Sp.put {w : World} {B T n g : Nat} {f : Nat → Int} (hb : B ≤ g) (ht : g < T) (h : Row w g n (U8 f)) (j : Nat) (v : Int) : Sp (w.setCell ⟨g, j, none⟩ (.int .u8 v)) B T (some ⟨g, 0, none⟩) n := fun _ =>
  ⟨g, _, rfl, hb, ht, row_put h j v⟩
theorem Sp.far {w : World} {T B' n g : Nat} {A : Option Addr} (h : Sp w B' T A n) (hg : g < B') (j : Nat) (v : Value) : Sp (w.setCell ⟨g, j, none⟩ v) B' T A n := fun hn => by
  obtain ⟨g', f, e, h1, h2, h3⟩ := h hn
  exact ⟨g', f, e, h1, h2, h3.far (by omega) j v⟩

set_option maxHeartbeats 4000000 in
set_option maxRecDepth 100000 in
theorem walk_cuts (A B : Option Addr) (n c m d : Nat) (f o : Nat → Int) (x y z : Int) (w : World) (h : Rd w w.heap.size A n (U8 f)) (hB : Rd w w.heap.size B m (U8 o)) (hx : In64 x) (hy : In64 y) (hz : In64 z) (hn : n ≤ 140737488351232) (hm : m ≤ 140737488351232) (hnc : n ≤ c) (hmd : m ≤ d) :
    Calls Try.prog 5 #[.slice A n c, .slice B m d, .agg #[.int .i64 x, .int .i64 y, .int .i64 z]] w fun e w' => e = .returned (.bool true) ∧ Since w w' := by
  have hn' : n ≤ 140737488355328 := by omega
  have hm' : m ≤ 140737488355328 := by omega
  go_enter Try.func5, Try.ntmps5
  go_wp2_with (first | (go_at_call 13; refine (alive02 _).mono ?_; rintro e w1 ⟨rfl, hS1⟩; have hT1 := (three_new w x y z _).since hS1; have hS0 := ((Since.refl w).alloc _).trans hS1; have h1 := h.on hS0; have hB1 := hB.on hS0; clear h hB hS1; have tok1 := True.intro) | (go_at_call 14; have _t := tok1; refine (ref_copy A n c f w1 h1 hn').mono ?_; rintro e w2 ⟨g2, c2, rfl, hown2, hS2⟩; have hB2 := hB1.on hS2; clear tok1; have tok2 := True.intro) | (go_at_call 14; have _t := tok2; refine (ref_copy B m d o w2 hB2 hm').mono ?_; rintro e w3 ⟨g3, c3, rfl, hown3, hS3⟩; have hF3 : Four w3 A B (some ⟨g2, 0, none⟩) (some ⟨g3, 0, none⟩) n m f o := ⟨(h1.on hS2).on hS3, hB2.on hS3, (Rd.of_row hown2.row).on hS3, Rd.of_row hown3.row⟩; have hT3 := (hT1.since hS2).since hS3; have hS03 := (hS0.trans hS2).trans hS3; have hc2 := hown2.cap; clear tok2 hB2 hB1 h1 hS2 hS3 hS0 hown2 hown3 hT1; obtain ⟨t31, t32, t33, t34⟩ := hT3) | (go_at_call 22; refine (be_cut _ n c2 f x y w3 hF3.2.2.1 hx hy hn' hc2).mono ?_; rintro e w4 ⟨A4, _, c4, rfl, rfl, hc4, hN4, hS4⟩; have hF4 := hF3.since hS4; have hp4 := sp_of hN4; have hT4 := (show Three w3 w.heap.size x y z from ⟨t31, t32, t33, t34⟩).since hS4; obtain ⟨t41, t42, t43, t44⟩ := hT4) | (go_at_call 23; refine (ref_cut _ n c f x y w4 hF4.1 hx hy hn' hnc).mono ?_; rintro e w5 ⟨A5, _, c5, rfl, rfl, hc5, hN5, hS5⟩; have hF5 := hF4.since hS5; have hT5 := (show Three w4 w.heap.size x y z from ⟨t41, t42, t43, t44⟩).since hS5; have hN45 := hN4.since hS5; clear hN4 t41 t42 t43 t44; obtain ⟨t51, t52, t53, t54⟩ := hT5) | (go_at_call 24; refine (be_lay _ _ n c2 m c3 f o x w5 hF5.2.2.1 hF5.2.2.2 hx hn' hm').mono ?_; rintro e w6 ⟨A6, _, c6, rfl, rfl, hc6, hN6, hS6⟩; have hF6 := hF5.since hS6; have hp6 := sp_of hN6; have hT6 := (show Three w5 w.heap.size x y z from ⟨t51, t52, t53, t54⟩).since hS6; have hN46 := hN45.since hS6; have hN56 := hN5.since hS6; clear hN45 hN5 t51 t52 t53 t54; obtain ⟨t61, t62, t63, t64⟩ := hT6) | (go_at_call 25; refine (ref_lay _ _ n c m d f o x w6 hF6.1 hF6.2.1 hx hn' hm').mono ?_; rintro e w7 ⟨A7, _, c7, rfl, rfl, hc7, hN7, hS7⟩; have hF7 := hF6.since hS7; have hT7 := (show Three w6 w.heap.size x y z from ⟨t61, t62, t63, t64⟩).since hS7; have hN47 := hN46.since hS7; have hN57 := hN56.since hS7; have hN67 := hN6.since hS7; clear hN46 hN56 hN6 t61 t62 t63 t64; obtain ⟨t71, t72, t73, t74⟩ := hT7) | (go_at_call 26; refine (be_pad _ n c2 f z w7 hF7.2.2.1 hz hn').mono ?_; rintro e w8 ⟨g8, rfl, hg8, hR8, hS8⟩; have hF8 := hF7.since hS8; have hT8 := (show Three w7 w.heap.size x y z from ⟨t71, t72, t73, t74⟩).since hS8; have hN48 := hN47.since hS8; have hN58 := hN57.since hS8; have hN68 := hN67.since hS8; have hN78 := hN7.since hS8; clear hN47 hN57 hN67 hN7 t71 t72 t73 t74; obtain ⟨t81, t82, t83, t84⟩ := hT8; have tok8 := True.intro) | (go_at_call 19; have _t := tok8; refine (ref_same A4 A5 _ _ _ _ _ w8 hN48.rd hN58.rd (fun _ _ => rfl)).mono ?_; rintro e w' ⟨rfl, rfl⟩; clear tok8 hN58; have tok9 := True.intro) | (go_at_call 19; have _t := tok9; refine (ref_same A6 A7 _ _ _ _ _ _ hN68.rd hN78.rd (fun _ _ => rfl)).mono ?_; rintro e w' ⟨rfl, rfl⟩; clear tok9 hN78; have tok10 := True.intro) | (go_at_call 27; refine (ref_pad A n c f z _ hF8.1 hz hn).mono ?_; rintro e w9 ⟨g9, c9, rfl, hg9, hR9, hS9⟩; have hF9 := hF8.since hS9; have hN49 := hN48.since hS9; have hN69 := hN68.since hS9; have hR89 := hR8.since hS9; have hq1 := Rd.of_row hR89; have hq2 := Rd.of_row hR9; clear hN48 hN68 t81 t82 t83 t84 hR8; have tok10 := True.intro) | (go_at_call 19; have _t := tok10; refine (ref_same _ _ _ _ _ _ _ _ hq1 hq2 (fun _ _ => rfl)).mono ?_; rintro e w' ⟨rfl, rfl⟩; clear tok10 hR9 hq1 hq2))
  have k7 : w7.heap.size ≤ g8 := hg8
  have kA : w4.heap.size ≤ w5.heap.size := hS5.below.size
  have kB : w6.heap.size ≤ w7.heap.size := hS7.below.size
  have kC : w5.heap.size ≤ w6.heap.size := hS6.below.size
  have kD : w3.heap.size ≤ w4.heap.size := hS4.below.size
  have hS78 := (hS7.trans hS8).trans hS9
  have hSA := ((hS4.trans hS5).trans hS6).trans hS78
  have hP4 := (hp4.since (hS5.trans hS6)).since hS78
  have hP6 := hp6.since hS78
  have hP8 : Sp _ w7.heap.size (g8 + 1) (some ⟨g8, 0, none⟩) (n + missing n (clampT z)) := fun _ => ⟨g8, _, rfl, k7, by omega, hR89⟩
  clear hR89 hF9 hN49 hN69 hS9 hg9 hF8 hS8 hS7 hS6 hS5 hS4 hF7 hF6 hF5 hF4 hp4 hp6 hS78 hg8 t31 t32 t33 t34
  have b4 : cutN n x y ≤ 140737488355328 := by unfold cutN Fits; split <;> omega
  have b6 : layN n m x ≤ 140737488355328 := by unfold layN; split <;> omega
  have b8 : n + missing n (clampT z) ≤ 140737488355328 := by
    have : missing n (clampT z) < clampT z := Nat.mod_lt _ (by unfold clampT; split <;> (try split) <;> omega)
    have : clampT z ≤ 16 := by unfold clampT; split <;> (try split) <;> omega
    omega
  generalize cutN n x y = N4 at *
  generalize layN n m x = N6 at *
  generalize n + missing n (clampT z) = N8 at *
  generalize layE n m x = E6 at *
  generalize cutE n x y = E4 at *
  go_loopw [18, 96] (fun _ y wr => ∃ j : Nat, j ≤ N4 ∧ y = .int .i64 j ∧ Since w3 wr ∧ Sp wr w3.heap.size w4.heap.size A4 N4 ∧ Sp wr w5.heap.size w6.heap.size A6 N6 ∧ Sp wr w7.heap.size (g8 + 1) (some ⟨g8, 0, none⟩) N8) (fun _ y _ => N4 - (intOf y).toNat)
  case atStart => exact ⟨0, by omega, rfl, hSA, hP4, hP6, hP8⟩
  case round =>
    obtain ⟨j, hj, rfl, hSr, hQ4, hQ6, hQ8⟩ := hrel
    by_cases hjm : j < N4
    · have hjm' : (j : Int) < N4 := by omega
      obtain ⟨g, q, rfl, hg1, hg2, hR⟩ := hQ4 (by omega)
      have hcell : wr.cell? ⟨g, j, none⟩ = some (.int .u8 (q j)) := hR.1 j hjm
      have hfr := hR.2.1 j
      go_wp2
      refine ⟨⟨j + 1, by omega, by simp, hSr.setCell hg1 _, Sp.put hg1 hg2 hR _ _, hQ6.far (by omega) _ _, hQ8.far (by omega) _ _⟩, by simp [intOf]; omega⟩
    · obtain rfl : N4 = j := by omega
      clear hP4 hP6 hP8 hSA hQ4
      go_wp2
      go_loopw [19, 110] (fun _ y wr => ∃ j : Nat, j ≤ N6 ∧ y = .int .i64 j ∧ Since w3 wr ∧ Sp wr w5.heap.size w6.heap.size A6 N6 ∧ Sp wr w7.heap.size (g8 + 1) (some ⟨g8, 0, none⟩) N8) (fun _ y _ => N6 - (intOf y).toNat)
      case atStart => exact ⟨0, by omega, rfl, hSr, hQ6, hQ8⟩
      case round =>
        obtain ⟨j, hj, rfl, hSs, hT6, hT8⟩ := hrel
        by_cases hjm : j < N6
        · have hjm' : (j : Int) < N6 := by omega
          obtain ⟨g, q, rfl, hg1, hg2, hR⟩ := hT6 (by omega)
          have hcell : wr.cell? ⟨g, j, none⟩ = some (.int .u8 (q j)) := hR.1 j hjm
          have hfr := hR.2.1 j
          go_wp2
          refine ⟨⟨j + 1, by omega, by simp, hSs.setCell (show w3.heap.size ≤ g by omega) _, Sp.put hg1 hg2 hR _ _, hT8.far (by omega) _ _⟩, by simp [intOf]; omega⟩
        · obtain rfl : N6 = j := by omega
          clear hQ6 hQ8 hSr hT6
          go_wp2
          go_loopw [20, 124] (fun _ y wr => ∃ j : Nat, j ≤ N8 ∧ y = .int .i64 j ∧ Since w3 wr ∧ Sp wr w7.heap.size (g8 + 1) (some ⟨g8, 0, none⟩) N8) (fun _ y _ => N8 - (intOf y).toNat)
          case atStart => exact ⟨0, by omega, rfl, hSs, hT8⟩
          case round =>
            obtain ⟨j, hj, rfl, hSt, hU8⟩ := hrel
            by_cases hjm : j < N8
            · have hjm' : (j : Int) < N8 := by omega
              obtain ⟨g, q, he, hg1, hg2, hR⟩ := hU8 (by omega)
              obtain rfl : g8 = g := by injection he with he; injection he
              have hcell : wr.cell? ⟨g8, j, none⟩ = some (.int .u8 (q j)) := hR.1 j hjm
              have hfr := hR.2.1 j
              clear he
              go_wp2
              refine ⟨⟨j + 1, by omega, by simp, hSt.setCell (show w3.heap.size ≤ g8 by omega) _, Sp.put hg1 hg2 hR _ _⟩, by simp [intOf]; omega⟩
            · obtain rfl : N8 = j := by omega
              have hFF := hF3.since hSt
              have hSF := hS03.trans hSt
              clear hSs hT8 hU8 hSt hF3 hS03
              have tok := True.intro
              go_wp2_with (first | (go_at_call 19; have _t := tok; refine (ref_same _ A n _ _ f f _ hFF.2.2.1 hFF.1 (fun _ _ => rfl)).mono ?_; rintro e w' ⟨rfl, rfl⟩; clear tok; have tok1 := True.intro) | (go_at_call 19; have _t := tok1; refine (ref_same _ B m _ _ o o _ hFF.2.2.2 hFF.2.1 (fun _ _ => rfl)).mono ?_; rintro e w' ⟨rfl, rfl⟩; clear tok1))
              go_ret
              exact ⟨rfl, hSF⟩
end Go.Proofs.Ytaojdflnfdabhaa
