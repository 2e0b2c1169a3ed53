/-
  Layer 6: 'layout', 'Read', walked, program and reference.
-/
import Derived.Test.YtefalfdillnkfaaLoB
namespace Go.Proofs.Ytefalfdillnkfaa
open Go.RowKit
set_option linter.unusedVariables false

theorem Try.info_i64 : (Try.prog.info? 3).map (fun i => (i.zero, i.size, i.bytes)) = some (some (.int .i64 0), 1, 8) := by kernel_rfl
theorem u_in (A : Option Addr) (n c : Nat) (f : Nat → Int) (p m : Nat) (x y : Int) (w : World) (h : Rd w w.heap.size A n (U8 f)) (hf : ∀ j, j < n → 0 ≤ f j ∧ f j ≤ 255) (hx : x = p) (hy : y = m) (hm : 1 ≤ m ∧ m ≤ 4) (hp : p + m ≤ n) (hn : n ≤ 140737488355328) :
    Calls Try.prog 25 #[.slice A n c, .int .i64 x, .int .i64 y] w fun e w' => e = .returned (.tuple #[.int .i64 (numAt f p m), .int .i64 0]) ∧ w' = w := by
  subst hx; subst hy
  have h' := be_u A n c f p m w h hf (by unfold In64; omega) (by unfold In64; omega) hn
  unfold uAns at h'
  rw [if_neg (by omega), if_pos (by unfold Fits; omega)] at h'
  simpa using h'
theorem ru_in (A : Option Addr) (n c : Nat) (f : Nat → Int) (p m : Nat) (x y : Int) (w : World) (h : Rd w w.heap.size A n (U8 f)) (hf : ∀ j, j < n → 0 ≤ f j ∧ f j ≤ 255) (hx : x = p) (hy : y = m) (hm : 1 ≤ m ∧ m ≤ 4) (hp : p + m ≤ n) (hn : n ≤ 140737488355328) :
    Calls Try.prog 27 #[.slice A n c, .int .i64 x, .int .i64 y] w fun e w' => e = .returned (.tuple #[.int .i64 (numAt f p m), .int .i64 0]) ∧ w' = w := by
  subst hx; subst hy
  have h' := ref_u A n c f p m w h hf (by unfold In64; omega) (by unfold In64; omega) hn
  unfold uAns at h'
  rw [if_neg (by omega), if_pos (by unfold Fits; omega)] at h'
  simpa using h'
def wide4 (l : Bool) : Nat := if l then 4 else 2
def times1 (l : Bool) : Int := if l then 1 else 2
theorem lo_layout (l : Bool) (w : World) : Calls Try.prog 24 #[.bool l] w fun e w' => e = .returned (.tuple #[.int .i64 (wide4 l), .int .i64 (times1 l)]) ∧ w' = w := by
  cases l
  · go_enter Try.func24, Try.ntmps24
    go_wp2
    go_ret2
    exact ⟨rfl, rfl⟩
  · go_enter Try.func24, Try.ntmps24
    go_wp2
    go_ret2
    exact ⟨rfl, rfl⟩
/-- Where glyph i begins. -/
def lcV (f : Nat → Int) (l : Bool) (i : Nat) : Int := times1 l * numAt f (wide4 l * i) (wide4 l)
theorem lcV_range {f : Nat → Int} {l : Bool} {i n : Nat} (hf : ∀ j, j < n → 0 ≤ f j ∧ f j ≤ 255) (h : wide4 l * i + wide4 l ≤ n) : 0 ≤ numAt f (wide4 l * i) (wide4 l) ∧ numAt f (wide4 l * i) (wide4 l) ≤ 4294967295 ∧ 0 ≤ lcV f l i ∧ lcV f l i ≤ 4294967295 := by
  have h1 := numAt_small (f := f) (p := wide4 l * i) (j := wide4 l) (by unfold wide4; split <;> omega) (fun j hj => hf j (by omega))
  unfold lcV
  cases l
  · simp only [wide4, times1] at *
    simp at *
    omega
  · simp only [wide4, times1] at *
    simp at *
    omega
def rdE (f : Nat → Int) (n : Nat) (l : Bool) (g : Int) : Int := if g < 0 ∨ 1024 < g then 2 else if (n : Int) < wide4 l * (g + 1) then 3 else if allB (ascB (lcV f l)) (g.toNat + 1) then 0 else 12
def rdN (f : Nat → Int) (n : Nat) (l : Bool) (g : Int) : Nat := if rdE f n l g = 0 then g.toNat + 1 else 0
/-- What 'Read' leaves. -/
def RdPost (f : Nat → Int) (n : Nat) (l : Bool) (g : Int) (w : World) (e : Ending) (w' : World) : Prop := ∃ A' c, e = .returned (.tuple #[.slice A' (rdN f n l g) c, .int .i64 (rdE f n l g)]) ∧ rdN f n l g ≤ c ∧ Rd w' w'.heap.size A' (rdN f n l g) (I64 (lcV f l)) ∧ Since w w'
theorem rd_post {f : Nat → Int} {n : Nat} {l : Bool} {g E : Int} {M c : Nat} {A' : Option Addr} {w w' : World} (hE : rdE f n l g = E) (hM : M = if E = 0 then g.toNat + 1 else 0) (hc : M ≤ c) (h : Rd w' w'.heap.size A' M (I64 (lcV f l))) (hS : Since w w') :
    RdPost f n l g w (.returned (.tuple #[.slice A' M c, .int .i64 E])) w' := by
  subst hE
  have e : rdN f n l g = M := hM.symm
  unfold RdPost
  rw [e]
  exact ⟨A', c, rfl, hc, h, hS⟩


theorem lo_layout2 (w : World) : Calls Try.prog 24 #[.bool false] w fun e w' => e = .returned (.tuple #[.int .i64 2, .int .i64 2]) ∧ w' = w := lo_layout false w
set_option maxHeartbeats 8000000 in
theorem lo_read2 (A : Option Addr) (n c : Nat) (f : Nat → Int) (g : Int) (w : World) (h : Rd w w.heap.size A n (U8 f)) (hf : ∀ j, j < n → 0 ≤ f j ∧ f j ≤ 255) (hg : In64 g) (hn : n ≤ 140737488355328) :
    Calls Try.prog 11 #[.slice A n c, .bool false, .int .i64 g] w (RdPost f n false g w) := by
  obtain ⟨i0, hi0, hz0, hz1, hz2⟩ := info_parts Try.info_i64
  by_cases h1 : g < 0
  · have d1 : decide (g < 0) = true := by simpa using h1
    have e : rdE f n false g = 2 := by unfold rdE; rw [if_pos (.inl h1)]
    have E := Lib.hid e; clear e h h1
    go_enter Try.func11, Try.ntmps11
    go_wp2
    go_ret2
    exact rd_post E.out rfl (Nat.le_refl _) Rd.zero (Since.refl _)
  have d1 : decide (g < 0) = false := by simpa using h1
  by_cases h2 : 1024 < g
  · have d2 : decide (1024 < g) = true := by simpa using h2
    have e : rdE f n false g = 2 := by unfold rdE; rw [if_pos (.inr h2)]
    have E := Lib.hid e; clear e h h1 h2
    go_enter Try.func11, Try.ntmps11
    go_wp2
    go_ret2
    exact rd_post E.out rfl (Nat.le_refl _) Rd.zero (Since.refl _)
  have d2 : decide (1024 < g) = false := by simpa using h2
  obtain ⟨G, rfl⟩ : ∃ G : Nat, g = G := ⟨g.toNat, by omega⟩
  have hG : G ≤ 1024 := by omega
  by_cases h3 : (n : Int) < 2 * ((G : Int) + 1)
  · have e : rdE f n false G = 3 := by unfold rdE; rw [if_neg (by omega)]; exact if_pos h3
    have E := Lib.hid e; clear e h h1 h2
    go_enter Try.func11, Try.ntmps11
    go_wp2_with (go_at_call 24; (with_reducible refine (lo_layout2 _).mono ?_); rintro e w1 ⟨rfl, rfl⟩)
    go_ret2
    exact rd_post E.out rfl (Nat.le_refl _) Rd.zero (Since.refl _)
  · have e : rdE f n false G = if allB (ascB (lcV f false)) (G + 1) then 0 else 12 := by unfold rdE; rw [if_neg (by omega)]; exact if_neg h3
    have E := Lib.hid e; clear e h1 h2
    have hG1 : (G : Int) ≤ 1024 := by omega
    have b1 : 8 * (G + 1) ≤ 281474976710656 := by omega
    have b2 : G + 1 ≤ maxLen := by simp only [maxLen]; omega
    have hN : ((G : Int) + 1) = ((G + 1 : Nat) : Int) := rfl
    have HN := Lib.hid hN; clear hN
    go_enter Try.func11, Try.ntmps11
    go_wp2_with (first | (go_at_call 24; (with_reducible refine (lo_layout2 _).mono ?_); rintro e w0 ⟨rfl, rfl⟩) | (at_make; refine wpList_make_tab _ (by rfl) _ _ _ (by rfl) 3 i0 .i64 8 Try.underlying25 hi0 hz0 hz1 hz2 .i64 .i64 (G + 1) (by rfl) (by rfl) b1 b2 ?_; intro w1 hown1 hS1))
    have hrow := row_of_own hown1
    clear hown1
    go_loopw [37] (fun y wr => ∃ j : Nat, j ≤ G + 1 ∧ y = .int .i64 (j : Int) ∧ Since w0 wr ∧ Row wr w0.heap.size (G + 1) (I64 (fun q => if q < j then lcV f false q else 0))) (fun y _ => G + 1 - (intOf y).toNat)
    case atStart => exact ⟨0, by omega, rfl, hS1, hrow.congr (fun q hq => by simp only [I64, IntRow]; rw [if_neg (by omega)])⟩
    case round =>
      obtain ⟨j, hj, rfl, hSr, hR⟩ := hrel
      by_cases hjm : j < G + 1
      · have hjm' : (j : Int) < (G : Int) + 1 := by omega
        have hcell := hR.1 j hjm
        have hfr := hR.2.1 j
        have hU := u_in A n c f (2 * j) 2 (2 * (j : Int)) 2 wr (h.on hSr) hf (by simp) rfl (by omega) (by omega) (by omega)
        have hv := lcV_range (f := f) (l := false) (i := j) (n := n) hf (by simp only [wide4]; simp; omega)
        have hvd : lcV f false j = 2 * numAt f (2 * j) 2 := rfl
        rw [show wide4 false = 2 from rfl] at hv
        have HVD := Lib.hid hvd; clear hvd
        generalize numAt f (2 * j) 2 = x at *
        obtain ⟨v1, v2, v3, v4⟩ := hv
        clear v3 v4
        go_wp2_with (go_at_call 25; (with_reducible refine hU.mono ?_); rintro e w2 ⟨rfl, rfl⟩)
        refine ⟨⟨j + 1, by omega, by simp, hSr.setCell (Nat.le_refl _) _, (hR.set j _).congr (fun t ht => ?_)⟩, by simp [intOf]; omega⟩
        simp only [I64, IntRow]
        by_cases hq : t = j
        · subst hq
          rw [if_pos rfl, if_pos (by omega), HVD.out]; first | done | (congr 1; omega)
        · rw [if_neg hq]
          by_cases ht2 : t < j
          · rw [if_pos ht2, if_pos (by omega)]
          · rw [if_neg ht2, if_neg (by omega)]
      · obtain rfl : j = G + 1 := by omega
        have hR' := hR.congr (g := I64 (lcV f false)) (fun q hq => by simp only [I64, IntRow]; rw [if_pos hq])
        clear hR hrow h
        have hA := lo_asc (some ⟨w0.heap.size, 0, none⟩) (G + 1) (G + 1) (lcV f false) wr (by simp only [maxLen]; omega) (Rd.of_row hR')
        cases hb : allB (ascB (lcV f false)) (G + 1) with
        | true =>
          rw [hb] at hA
          have E2 := Lib.hid (show rdE f n false G = 0 from by rw [E.out, hb]; rfl); clear E hb
          go_wp2_with (go_at_call 26; (with_reducible refine hA.mono ?_); rintro e w2 ⟨rfl, hS2⟩)
          go_ret2
          exact rd_post E2.out rfl (Nat.le_refl _) (Rd.of_row (hR'.since hS2)) (hSr.trans hS2)
        | false =>
          rw [hb] at hA
          have E2 := Lib.hid (show rdE f n false G = 12 from by rw [E.out, hb]; rfl); clear E hb
          go_wp2_with (go_at_call 26; (with_reducible refine hA.mono ?_); rintro e w2 ⟨rfl, hS2⟩)
          go_ret2
          exact rd_post E2.out rfl (Nat.le_refl _) Rd.zero (hSr.trans hS2)

theorem lo_layout4 (w : World) : Calls Try.prog 24 #[.bool true] w fun e w' => e = .returned (.tuple #[.int .i64 4, .int .i64 1]) ∧ w' = w := lo_layout true w
set_option maxHeartbeats 8000000 in
theorem lo_read4 (A : Option Addr) (n c : Nat) (f : Nat → Int) (g : Int) (w : World) (h : Rd w w.heap.size A n (U8 f)) (hf : ∀ j, j < n → 0 ≤ f j ∧ f j ≤ 255) (hg : In64 g) (hn : n ≤ 140737488355328) :
    Calls Try.prog 11 #[.slice A n c, .bool true, .int .i64 g] w (RdPost f n true g w) := by
  obtain ⟨i0, hi0, hz0, hz1, hz2⟩ := info_parts Try.info_i64
  by_cases h1 : g < 0
  · have d1 : decide (g < 0) = true := by simpa using h1
    have e : rdE f n true g = 2 := by unfold rdE; rw [if_pos (.inl h1)]
    have E := Lib.hid e; clear e h h1
    go_enter Try.func11, Try.ntmps11
    go_wp2
    go_ret2
    exact rd_post E.out rfl (Nat.le_refl _) Rd.zero (Since.refl _)
  have d1 : decide (g < 0) = false := by simpa using h1
  by_cases h2 : 1024 < g
  · have d2 : decide (1024 < g) = true := by simpa using h2
    have e : rdE f n true g = 2 := by unfold rdE; rw [if_pos (.inr h2)]
    have E := Lib.hid e; clear e h h1 h2
    go_enter Try.func11, Try.ntmps11
    go_wp2
    go_ret2
    exact rd_post E.out rfl (Nat.le_refl _) Rd.zero (Since.refl _)
  have d2 : decide (1024 < g) = false := by simpa using h2
  obtain ⟨G, rfl⟩ : ∃ G : Nat, g = G := ⟨g.toNat, by omega⟩
  have hG : G ≤ 1024 := by omega
  by_cases h3 : (n : Int) < 4 * ((G : Int) + 1)
  · have e : rdE f n true G = 3 := by unfold rdE; rw [if_neg (by omega)]; exact if_pos h3
    have E := Lib.hid e; clear e h h1 h2
    go_enter Try.func11, Try.ntmps11
    go_wp2_with (go_at_call 24; (with_reducible refine (lo_layout4 _).mono ?_); rintro e w1 ⟨rfl, rfl⟩)
    go_ret2
    exact rd_post E.out rfl (Nat.le_refl _) Rd.zero (Since.refl _)
  · have e : rdE f n true G = if allB (ascB (lcV f true)) (G + 1) then 0 else 12 := by unfold rdE; rw [if_neg (by omega)]; exact if_neg h3
    have E := Lib.hid e; clear e h1 h2
    have hG1 : (G : Int) ≤ 1024 := by omega
    have b1 : 8 * (G + 1) ≤ 281474976710656 := by omega
    have b2 : G + 1 ≤ maxLen := by simp only [maxLen]; omega
    have hN : ((G : Int) + 1) = ((G + 1 : Nat) : Int) := rfl
    have HN := Lib.hid hN; clear hN
    go_enter Try.func11, Try.ntmps11
    go_wp2_with (first | (go_at_call 24; (with_reducible refine (lo_layout4 _).mono ?_); rintro e w0 ⟨rfl, rfl⟩) | (at_make; refine wpList_make_tab _ (by rfl) _ _ _ (by rfl) 3 i0 .i64 8 Try.underlying25 hi0 hz0 hz1 hz2 .i64 .i64 (G + 1) (by rfl) (by rfl) b1 b2 ?_; intro w1 hown1 hS1))
    have hrow := row_of_own hown1
    clear hown1
    go_loopw [37] (fun y wr => ∃ j : Nat, j ≤ G + 1 ∧ y = .int .i64 (j : Int) ∧ Since w0 wr ∧ Row wr w0.heap.size (G + 1) (I64 (fun q => if q < j then lcV f true q else 0))) (fun y _ => G + 1 - (intOf y).toNat)
    case atStart => exact ⟨0, by omega, rfl, hS1, hrow.congr (fun q hq => by simp only [I64, IntRow]; rw [if_neg (by omega)])⟩
    case round =>
      obtain ⟨j, hj, rfl, hSr, hR⟩ := hrel
      by_cases hjm : j < G + 1
      · have hjm' : (j : Int) < (G : Int) + 1 := by omega
        have hcell := hR.1 j hjm
        have hfr := hR.2.1 j
        have hU := u_in A n c f (4 * j) 4 (4 * (j : Int)) 4 wr (h.on hSr) hf (by simp) rfl (by omega) (by omega) (by omega)
        have hv := lcV_range (f := f) (l := true) (i := j) (n := n) hf (by simp only [wide4]; simp; omega)
        have hvd : lcV f true j = 1 * numAt f (4 * j) 4 := rfl
        rw [show wide4 true = 4 from rfl] at hv
        have HVD := Lib.hid hvd; clear hvd
        generalize numAt f (4 * j) 4 = x at *
        obtain ⟨v1, v2, v3, v4⟩ := hv
        clear v3 v4
        go_wp2_with (go_at_call 25; (with_reducible refine hU.mono ?_); rintro e w2 ⟨rfl, rfl⟩)
        refine ⟨⟨j + 1, by omega, by simp, hSr.setCell (Nat.le_refl _) _, (hR.set j _).congr (fun t ht => ?_)⟩, by simp [intOf]; omega⟩
        simp only [I64, IntRow]
        by_cases hq : t = j
        · subst hq
          rw [if_pos rfl, if_pos (by omega), HVD.out]; first | done | (congr 1; omega)
        · rw [if_neg hq]
          by_cases ht2 : t < j
          · rw [if_pos ht2, if_pos (by omega)]
          · rw [if_neg ht2, if_neg (by omega)]
      · obtain rfl : j = G + 1 := by omega
        have hR' := hR.congr (g := I64 (lcV f true)) (fun q hq => by simp only [I64, IntRow]; rw [if_pos hq])
        clear hR hrow h
        have hA := lo_asc (some ⟨w0.heap.size, 0, none⟩) (G + 1) (G + 1) (lcV f true) wr (by simp only [maxLen]; omega) (Rd.of_row hR')
        cases hb : allB (ascB (lcV f true)) (G + 1) with
        | true =>
          rw [hb] at hA
          have E2 := Lib.hid (show rdE f n true G = 0 from by rw [E.out, hb]; rfl); clear E hb
          go_wp2_with (go_at_call 26; (with_reducible refine hA.mono ?_); rintro e w2 ⟨rfl, hS2⟩)
          go_ret2
          exact rd_post E2.out rfl (Nat.le_refl _) (Rd.of_row (hR'.since hS2)) (hSr.trans hS2)
        | false =>
          rw [hb] at hA
          have E2 := Lib.hid (show rdE f n true G = 12 from by rw [E.out, hb]; rfl); clear E hb
          go_wp2_with (go_at_call 26; (with_reducible refine hA.mono ?_); rintro e w2 ⟨rfl, hS2⟩)
          go_ret2
          exact rd_post E2.out rfl (Nat.le_refl _) Rd.zero (hSr.trans hS2)


theorem rd1 (w : World) (x : Int) : Rd (w.alloc (.cells #[.int .i64 x] 3)) (w.heap.size + 1) (some ⟨w.heap.size, 0, none⟩) 1 (I64 (fun _ => x)) := fun _ =>
  ⟨w.heap.size, 0, rfl, by omega, fun j hj => by
    obtain rfl : j = 0 := by omega
    rw [World.cell?_alloc_new]; rfl⟩
theorem tab_next (j : Nat) (f : Nat → Int) (x : Int) (h : f j = x) : tab j (I64 f) ++ tab 1 (I64 (fun _ => x)) = tab (j + 1) (I64 f) := by
  rw [tab_append]
  refine tab_congr fun t ht => ?_
  by_cases htn : t < j
  · rw [if_pos htn]
  · obtain rfl : t = j := by omega
    rw [if_neg htn]
    simp only [I64, IntRow, h]
theorem allB_next {p : Nat → Bool} {j : Nat} (h : allB p j = true) (h' : p j = true) : allB p (j + 1) = true := by
  unfold allB; rw [h, h']; rfl

set_option maxHeartbeats 8000000 in
theorem ref_read2 (A : Option Addr) (n c : Nat) (f : Nat → Int) (g : Int) (w : World) (h : Rd w w.heap.size A n (U8 f)) (hf : ∀ j, j < n → 0 ≤ f j ∧ f j ≤ 255) (hg : In64 g) (hn : n ≤ 140737488355328) :
    Calls Try.prog 12 #[.slice A n c, .bool false, .int .i64 g] w (RdPost f n false g w) := by
  obtain ⟨i0, hi0, hz0, hz1, hz2⟩ := info_parts Try.info_i64
  by_cases h1 : g < 0
  · have d1 : decide (g < 0) = true := by simpa using h1
    have e : rdE f n false g = 2 := by unfold rdE; rw [if_pos (.inl h1)]
    have E := Lib.hid e; clear e h h1
    go_enter Try.func12, Try.ntmps12
    go_wp2
    go_ret2
    exact rd_post E.out rfl (Nat.le_refl _) Rd.zero (Since.refl _)
  have d1 : decide (g < 0) = false := by simpa using h1
  by_cases h2 : 1024 < g
  · have d2 : decide (1024 < g) = true := by simpa using h2
    have e : rdE f n false g = 2 := by unfold rdE; rw [if_pos (.inr h2)]
    have E := Lib.hid e; clear e h h1 h2
    go_enter Try.func12, Try.ntmps12
    go_wp2
    go_ret2
    exact rd_post E.out rfl (Nat.le_refl _) Rd.zero (Since.refl _)
  have d2 : decide (1024 < g) = false := by simpa using h2
  obtain ⟨G, rfl⟩ : ∃ G : Nat, g = G := ⟨g.toNat, by omega⟩
  have hG : G ≤ 1024 := by omega
  by_cases h3 : (n : Int) < 2 * ((G : Int) + 1)
  · have e : rdE f n false G = 3 := by unfold rdE; rw [if_neg (by omega)]; exact if_pos h3
    have E := Lib.hid e; clear e h h1 h2
    go_enter Try.func12, Try.ntmps12
    go_wp2
    go_ret2
    exact rd_post E.out rfl (Nat.le_refl _) Rd.zero (Since.refl _)
  · have e : rdE f n false G = if allB (ascB (lcV f false)) (G + 1) then 0 else 12 := by unfold rdE; rw [if_neg (by omega)]; exact if_neg h3
    have E := Lib.hid e; clear e h1 h2
    have hG1 : (G : Int) ≤ 1024 := by omega
    go_enter Try.func12, Try.ntmps12
    go_wp2
    go_loopw [10, 11] (fun v y wr => ∃ j : Nat, j ≤ G + 1 ∧ y = .int .i64 (j : Int) ∧ Since w wr ∧ wr.ownsRow w.heap.size 3 1 v j (tab j (I64 (lcV f false))) ∧ allB (ascB (lcV f false)) j = true) (fun _ y _ => G + 1 - (intOf y).toNat)
    case atStart => exact ⟨0, by omega, rfl, Since.refl _, World.ownsRow_nil _ _ _ _, rfl⟩
    case round =>
      obtain ⟨j, hj, rfl, hSr, hown, hall⟩ := hrel
      have HA := Lib.hid hall; clear hall
      obtain ⟨vA, vc, rfl, hvc, hvr, hvb⟩ := own_any hown
      by_cases hjm : j < G + 1
      · have hjm' : (j : Int) ≤ (G : Int) := by omega
        have hU := ru_in A n c f (2 * j) 2 (2 * (j : Int)) 2 wr (h.on hSr) hf (by simp) rfl (by omega) (by omega) (by omega)
        have hv := lcV_range (f := f) (l := false) (i := j) (n := n) hf (by simp only [wide4]; simp; omega)
        have hvd : lcV f false j = 2 * numAt f (2 * j) 2 := rfl
        rw [show wide4 false = 2 from rfl] at hv
        have HVD := Lib.hid hvd; clear hvd
        have q3 : (j + 1) * 8 ≤ 140737488355328 := by omega
        have q4 : j + 1 ≤ maxLen := by simp only [maxLen]; omega
        generalize numAt f (2 * j) 2 = x at *
        obtain ⟨v1, v2, v3, v4⟩ := hv
        clear v3 v4 h
        by_cases hj0 : j = 0
        · have HB := Lib.hid (show ascB (lcV f false) j = true from by rw [hj0]; exact asc_zero _)
          have hj0' : ¬ (0 : Int) < j := by omega
          clear hj0
          go_wp2_with (first | (go_at_call 27; (with_reducible refine hU.mono ?_); rintro e w2 ⟨rfl, rfl⟩) | (at_builtin; refine wpList_append_any _ (by rfl) _ _ _ (by rfl) w.heap.size 3 i0 _ 8 Try.underlying25 hi0 hz0 hz1 hz2 (by rfl) _ j _ (by rfl) (hown.alloc _) (w2.heap.size + 1) _ 1 1 (I64 (fun _ => 2 * x)) (by rfl) ?_ tab_ones q3 q4 ?_ ?_; (focus (first | exact rd1 _ _ | (simp only [Int.one_mul]; exact rd1 _ _))); (focus (have := hSr.below.size; simp; omega)); intro v' w3 hown3 hgr3; rw [tab_next j (lcV f false) _ HVD.out] at hown3; have hS3 := since_grown (hSr.alloc _) hgr3 hvb; clear hown hgr3 hvr hvb))
          refine ⟨⟨j + 1, by omega, by simp, hS3, hown3, allB_next HA.out HB.out⟩, by simp [intOf]; omega⟩
        · obtain ⟨b, o, rfl, hb, hcc⟩ := hvr (by omega)
          have hj0' : (0 : Int) < j := by omega
          have hj1' : (1 : Int) ≤ j := by omega
          have hcell : wr.cell? ⟨b, o + (j - 1), none⟩ = some (.int .i64 (lcV f false (j - 1))) := hcc (j - 1) (by omega)
          have hvr := hown
          obtain ⟨i, hi⟩ : ∃ i, j = i + 1 := ⟨j - 1, by omega⟩
          have hB := asc_next (lcV f false) i
          rw [← hi] at hB
          rw [HVD.out, show i = j - 1 by omega] at hB
          have hy := lcV_range (f := f) (l := false) (i := j - 1) (n := n) hf (by simp only [wide4]; simp; omega)
          obtain ⟨y, hyy⟩ : ∃ y, lcV f false (j - 1) = y := ⟨_, rfl⟩
          rw [hyy] at hcell hB hy
          have hy3 := hy.2.2.1
          have hy4 := hy.2.2.2
          clear hyy hy hi hj0 hcc i
          by_cases hlt : y ≤ 2 * x
          · have HB := Lib.hid (show ascB (lcV f false) j = true from by rw [hB]; simpa using hlt)
            clear hB
            go_wp2_with (first | (go_at_call 27; (with_reducible refine hU.mono ?_); rintro e w2 ⟨rfl, rfl⟩) | (at_builtin; refine wpList_append_any _ (by rfl) _ _ _ (by rfl) w.heap.size 3 i0 _ 8 Try.underlying25 hi0 hz0 hz1 hz2 (by rfl) _ j _ (by rfl) (hown.alloc _) (w2.heap.size + 1) _ 1 1 (I64 (fun _ => 2 * x)) (by rfl) ?_ tab_ones q3 q4 ?_ ?_; (focus (first | exact rd1 _ _ | (simp only [Int.one_mul]; exact rd1 _ _))); (focus (have := hSr.below.size; simp; omega)); intro v' w3 hown3 hgr3; rw [tab_next j (lcV f false) _ HVD.out] at hown3; have hS3 := since_grown (hSr.alloc _) hgr3 hvb; clear hown hgr3 hvr hvb))
            refine ⟨⟨j + 1, by omega, by simp, hS3, hown3, allB_next HA.out HB.out⟩, by simp [intOf]; omega⟩
          · have hB2 : ascB (lcV f false) j = false := by rw [hB]; simpa using hlt
            have E2 := Lib.hid (show rdE f n false G = 12 from by rw [E.out, allB_no hB2 hjm]; rfl); clear E hB hB2 hown hvr
            go_wp2_with (go_at_call 27; (with_reducible refine hU.mono ?_); rintro e w2 ⟨rfl, rfl⟩)
            go_ret2
            exact rd_post E2.out rfl (Nat.le_refl _) Rd.zero hSr
      · obtain rfl : j = G + 1 := by omega
        have E2 := Lib.hid (show rdE f n false G = 0 from by rw [E.out, HA.out]; rfl); clear E
        clear h
        go_wp2
        go_ret2
        exact rd_post E2.out rfl hvc hvr hSr

set_option maxHeartbeats 8000000 in
theorem ref_read4 (A : Option Addr) (n c : Nat) (f : Nat → Int) (g : Int) (w : World) (h : Rd w w.heap.size A n (U8 f)) (hf : ∀ j, j < n → 0 ≤ f j ∧ f j ≤ 255) (hg : In64 g) (hn : n ≤ 140737488355328) :
    Calls Try.prog 12 #[.slice A n c, .bool true, .int .i64 g] w (RdPost f n true g w) := by
  obtain ⟨i0, hi0, hz0, hz1, hz2⟩ := info_parts Try.info_i64
  by_cases h1 : g < 0
  · have d1 : decide (g < 0) = true := by simpa using h1
    have e : rdE f n true g = 2 := by unfold rdE; rw [if_pos (.inl h1)]
    have E := Lib.hid e; clear e h h1
    go_enter Try.func12, Try.ntmps12
    go_wp2
    go_ret2
    exact rd_post E.out rfl (Nat.le_refl _) Rd.zero (Since.refl _)
  have d1 : decide (g < 0) = false := by simpa using h1
  by_cases h2 : 1024 < g
  · have d2 : decide (1024 < g) = true := by simpa using h2
    have e : rdE f n true g = 2 := by unfold rdE; rw [if_pos (.inr h2)]
    have E := Lib.hid e; clear e h h1 h2
    go_enter Try.func12, Try.ntmps12
    go_wp2
    go_ret2
    exact rd_post E.out rfl (Nat.le_refl _) Rd.zero (Since.refl _)
  have d2 : decide (1024 < g) = false := by simpa using h2
  obtain ⟨G, rfl⟩ : ∃ G : Nat, g = G := ⟨g.toNat, by omega⟩
  have hG : G ≤ 1024 := by omega
  by_cases h3 : (n : Int) < 4 * ((G : Int) + 1)
  · have e : rdE f n true G = 3 := by unfold rdE; rw [if_neg (by omega)]; exact if_pos h3
    have E := Lib.hid e; clear e h h1 h2
    go_enter Try.func12, Try.ntmps12
    go_wp2
    go_ret2
    exact rd_post E.out rfl (Nat.le_refl _) Rd.zero (Since.refl _)
  · have e : rdE f n true G = if allB (ascB (lcV f true)) (G + 1) then 0 else 12 := by unfold rdE; rw [if_neg (by omega)]; exact if_neg h3
    have E := Lib.hid e; clear e h1 h2
    have hG1 : (G : Int) ≤ 1024 := by omega
    go_enter Try.func12, Try.ntmps12
    go_wp2
    go_loopw [10, 11] (fun v y wr => ∃ j : Nat, j ≤ G + 1 ∧ y = .int .i64 (j : Int) ∧ Since w wr ∧ wr.ownsRow w.heap.size 3 1 v j (tab j (I64 (lcV f true))) ∧ allB (ascB (lcV f true)) j = true) (fun _ y _ => G + 1 - (intOf y).toNat)
    case atStart => exact ⟨0, by omega, rfl, Since.refl _, World.ownsRow_nil _ _ _ _, rfl⟩
    case round =>
      obtain ⟨j, hj, rfl, hSr, hown, hall⟩ := hrel
      have HA := Lib.hid hall; clear hall
      obtain ⟨vA, vc, rfl, hvc, hvr, hvb⟩ := own_any hown
      by_cases hjm : j < G + 1
      · have hjm' : (j : Int) ≤ (G : Int) := by omega
        have hU := ru_in A n c f (4 * j) 4 (4 * (j : Int)) 4 wr (h.on hSr) hf (by simp) rfl (by omega) (by omega) (by omega)
        have hv := lcV_range (f := f) (l := true) (i := j) (n := n) hf (by simp only [wide4]; simp; omega)
        have hvd : lcV f true j = 1 * numAt f (4 * j) 4 := rfl
        rw [show wide4 true = 4 from rfl] at hv
        have HVD := Lib.hid hvd; clear hvd
        have q3 : (j + 1) * 8 ≤ 140737488355328 := by omega
        have q4 : j + 1 ≤ maxLen := by simp only [maxLen]; omega
        generalize numAt f (4 * j) 4 = x at *
        obtain ⟨v1, v2, v3, v4⟩ := hv
        clear v3 v4 h
        by_cases hj0 : j = 0
        · have HB := Lib.hid (show ascB (lcV f true) j = true from by rw [hj0]; exact asc_zero _)
          have hj0' : ¬ (0 : Int) < j := by omega
          clear hj0
          go_wp2_with (first | (go_at_call 27; (with_reducible refine hU.mono ?_); rintro e w2 ⟨rfl, rfl⟩) | (at_builtin; refine wpList_append_any _ (by rfl) _ _ _ (by rfl) w.heap.size 3 i0 _ 8 Try.underlying25 hi0 hz0 hz1 hz2 (by rfl) _ j _ (by rfl) (hown.alloc _) (w2.heap.size + 1) _ 1 1 (I64 (fun _ => 1 * x)) (by rfl) ?_ tab_ones q3 q4 ?_ ?_; (focus (first | exact rd1 _ _ | (simp only [Int.one_mul]; exact rd1 _ _))); (focus (have := hSr.below.size; simp; omega)); intro v' w3 hown3 hgr3; rw [tab_next j (lcV f true) _ HVD.out] at hown3; have hS3 := since_grown (hSr.alloc _) hgr3 hvb; clear hown hgr3 hvr hvb))
          refine ⟨⟨j + 1, by omega, by simp, hS3, hown3, allB_next HA.out HB.out⟩, by simp [intOf]; omega⟩
        · obtain ⟨b, o, rfl, hb, hcc⟩ := hvr (by omega)
          have hj0' : (0 : Int) < j := by omega
          have hj1' : (1 : Int) ≤ j := by omega
          have hcell : wr.cell? ⟨b, o + (j - 1), none⟩ = some (.int .i64 (lcV f true (j - 1))) := hcc (j - 1) (by omega)
          have hvr := hown
          obtain ⟨i, hi⟩ : ∃ i, j = i + 1 := ⟨j - 1, by omega⟩
          have hB := asc_next (lcV f true) i
          rw [← hi] at hB
          rw [HVD.out, show i = j - 1 by omega] at hB
          have hy := lcV_range (f := f) (l := true) (i := j - 1) (n := n) hf (by simp only [wide4]; simp; omega)
          obtain ⟨y, hyy⟩ : ∃ y, lcV f true (j - 1) = y := ⟨_, rfl⟩
          rw [hyy] at hcell hB hy
          have hy3 := hy.2.2.1
          have hy4 := hy.2.2.2
          clear hyy hy hi hj0 hcc i
          by_cases hlt : y ≤ 1 * x
          · have HB := Lib.hid (show ascB (lcV f true) j = true from by rw [hB]; simpa using hlt)
            clear hB
            go_wp2_with (first | (go_at_call 27; (with_reducible refine hU.mono ?_); rintro e w2 ⟨rfl, rfl⟩) | (at_builtin; refine wpList_append_any _ (by rfl) _ _ _ (by rfl) w.heap.size 3 i0 _ 8 Try.underlying25 hi0 hz0 hz1 hz2 (by rfl) _ j _ (by rfl) (hown.alloc _) (w2.heap.size + 1) _ 1 1 (I64 (fun _ => 1 * x)) (by rfl) ?_ tab_ones q3 q4 ?_ ?_; (focus (first | exact rd1 _ _ | (simp only [Int.one_mul]; exact rd1 _ _))); (focus (have := hSr.below.size; simp; omega)); intro v' w3 hown3 hgr3; rw [tab_next j (lcV f true) _ HVD.out] at hown3; have hS3 := since_grown (hSr.alloc _) hgr3 hvb; clear hown hgr3 hvr hvb))
            refine ⟨⟨j + 1, by omega, by simp, hS3, hown3, allB_next HA.out HB.out⟩, by simp [intOf]; omega⟩
          · have hB2 : ascB (lcV f true) j = false := by rw [hB]; simpa using hlt
            have E2 := Lib.hid (show rdE f n true G = 12 from by rw [E.out, allB_no hB2 hjm]; rfl); clear E hB hB2 hown hvr
            go_wp2_with (go_at_call 27; (with_reducible refine hU.mono ?_); rintro e w2 ⟨rfl, rfl⟩)
            go_ret2
            exact rd_post E2.out rfl (Nat.le_refl _) Rd.zero hSr
      · obtain rfl : j = G + 1 := by omega
        have E2 := Lib.hid (show rdE f n true G = 0 from by rw [E.out, HA.out]; rfl); clear E
        clear h
        go_wp2
        go_ret2
        exact rd_post E2.out rfl hvc hvr hSr

end Go.Proofs.Ytefalfdillnkfaa
