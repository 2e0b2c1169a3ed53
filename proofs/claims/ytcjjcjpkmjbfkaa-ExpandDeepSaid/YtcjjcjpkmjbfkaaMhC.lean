/-
  Texts of this seat, put together: each with its own head.
-/
import Derived.Test.YtcjjcjpkmjbfkaaMhB
import Derived.Test.YtcjjcjpkmjbfkaaMhA
import Derived.OwnWalk
import Derived.WalkMore
import Derived.ScopeJumps
import Derived.Laws.StructEq
import Derived.Deep.CutBlock
import Derived.Deep.DeepCutAuto

/-
  Layer 8: readPart, readCode, walked.
-/
namespace Go.Proofs.Ytcjjcjpkmjbfkaa
open Go.RowKit Go.ChangeShapes Go.WideShapes Go.Deep
set_option linter.unusedVariables false


theorem u_out (A : Option Addr) (n c : Nat) (f : Nat → Int) (p m : Nat) (x y : Int) (w : World) (h : Rd w w.heap.size A n (U8 f)) (hf : ∀ j, j < n → 0 ≤ f j ∧ f j ≤ 255) (hx : x = p) (hy : y = m) (hm : 1 ≤ m ∧ m ≤ 4) (hp : n < p + m) (hpn : p ≤ 180000000000000) (hn : n ≤ 140737488355328) :
    Calls Try.prog 55 #[.slice A n c, .int .i64 x, .int .i64 y] w fun e w' => e = .returned (.tuple #[.int .i64 0, .int .i64 3]) ∧ w' = w := by
  subst hx; subst hy
  have h' := be_u A n c f p m w h hf (by unfold In64; omega) (by unfold In64; omega) hn
  unfold uAns at h'
  rw [if_neg (by omega), if_neg (by unfold Fits; omega)] at h'
  simpa using h'

theorem ru_out (A : Option Addr) (n c : Nat) (f : Nat → Int) (p m : Nat) (x y : Int) (w : World) (h : Rd w w.heap.size A n (U8 f)) (hf : ∀ j, j < n → 0 ≤ f j ∧ f j ≤ 255) (hx : x = p) (hy : y = m) (hm : 1 ≤ m ∧ m ≤ 4) (hp : n < p + m) (hpn : p ≤ 180000000000000) (hn : n ≤ 140737488355328) :
    Calls Try.prog 62 #[.slice A n c, .int .i64 x, .int .i64 y] w fun e w' => e = .returned (.tuple #[.int .i64 0, .int .i64 3]) ∧ w' = w := by
  subst hx; subst hy
  have h' := ref_u A n c f p m w h hf (by unfold In64; omega) (by unfold In64; omega) hn
  unfold uAns at h'
  rw [if_neg (by omega), if_neg (by unfold Fits; omega)] at h'
  simpa using h'


theorem s_out (A : Option Addr) (n c : Nat) (f : Nat → Int) (p m : Nat) (x y : Int) (w : World) (h : Rd w w.heap.size A n (U8 f)) (hf : ∀ j, j < n → 0 ≤ f j ∧ f j ≤ 255) (hx : x = p) (hy : y = m) (hm : 1 ≤ m ∧ m ≤ 4) (hp : n < p + m) (hpn : p ≤ 180000000000000) (hn : n ≤ 140737488355328) :
    Calls Try.prog 53 #[.slice A n c, .int .i64 x, .int .i64 y] w fun e w' => e = .returned (.tuple #[.int .i64 0, .int .i64 3]) ∧ w' = w := by
  subst hx; subst hy
  have h' := be_s A n c f p m w h hf (by unfold In64; omega) (by unfold In64; omega) hn
  unfold sAns at h'
  rw [if_neg (by omega), if_neg (by unfold Fits; omega)] at h'
  simpa using h'

theorem rs_out (A : Option Addr) (n c : Nat) (f : Nat → Int) (p m : Nat) (x y : Int) (w : World) (h : Rd w w.heap.size A n (U8 f)) (hf : ∀ j, j < n → 0 ≤ f j ∧ f j ≤ 255) (hx : x = p) (hy : y = m) (hm : 1 ≤ m ∧ m ≤ 4) (hp : n < p + m) (hpn : p ≤ 180000000000000) (hn : n ≤ 140737488355328) :
    Calls Try.prog 64 #[.slice A n c, .int .i64 x, .int .i64 y] w fun e w' => e = .returned (.tuple #[.int .i64 0, .int .i64 3]) ∧ w' = w := by
  subst hx; subst hy
  have h' := ref_s A n c f p m w h hf (by unfold In64; omega) (by unfold In64; omega) hn
  unfold sAns at h'
  rw [if_neg (by omega), if_neg (by unfold Fits; omega)] at h'
  simpa using h'


theorem cut_l (A : Option Addr) (n c : Nat) (f : Nat → Int) (p m : Nat) (x y : Int) (w : World) (h : Rd w w.heap.size A n (U8 f)) (hx : x = p) (hy : y = m) (hp : p + m ≤ n) (hn : n ≤ 140737488355328) (hnc : n ≤ c) :
    Calls Try.prog 56 #[.slice A n c, .int .i64 x, .int .i64 y] w fun e w' => ∃ A' cap, e = .returned (.tuple #[.slice A' m cap, .int .i64 0]) ∧ m ≤ cap ∧ Nw w' w.heap.size A' m (U8 (fun j => f (p + j))) ∧ Since w w' := by
  subst hx; subst hy
  refine (be_cut A n c f p m w h (by unfold In64; omega) (by unfold In64; omega) hn hnc).mono ?_
  rintro e w' ⟨A', l, cap, rfl, hl, hc, hN, hS⟩
  obtain ⟨e1, e2⟩ := cut_yes (n := n) (k := m) (i := p) ⟨by omega, by unfold Fits; omega⟩
  rw [e2] at hl
  subst hl
  exact ⟨A', cap, by rw [e1], hc, hN, hS⟩
theorem cut_l_no (A : Option Addr) (n c : Nat) (f : Nat → Int) (p m : Nat) (x y : Int) (w : World) (h : Rd w w.heap.size A n (U8 f)) (hx : x = p) (hy : y = m) (hp : n < p + m) (hpn : p ≤ 180000000000000) (hm : m ≤ 180000000000000) (hn : n ≤ 140737488355328) (hnc : n ≤ c) :
    Calls Try.prog 56 #[.slice A n c, .int .i64 x, .int .i64 y] w fun e w' => ∃ A' cap, e = .returned (.tuple #[.slice A' 0 cap, .int .i64 3]) ∧ Since w w' := by
  subst hx; subst hy
  refine (be_cut A n c f p m w h (by unfold In64; omega) (by unfold In64; omega) hn hnc).mono ?_
  rintro e w' ⟨A', l, cap, rfl, hl, hc, hN, hS⟩
  obtain ⟨e1, e2⟩ := cut_no (n := n) (k := m) (i := p) (by unfold Fits; omega)
  rw [e2] at hl
  subst hl
  exact ⟨A', cap, by rw [e1], hS⟩

theorem rcut_l (A : Option Addr) (n c : Nat) (f : Nat → Int) (p m : Nat) (x y : Int) (w : World) (h : Rd w w.heap.size A n (U8 f)) (hx : x = p) (hy : y = m) (hp : p + m ≤ n) (hn : n ≤ 140737488355328) (hnc : n ≤ c) :
    Calls Try.prog 52 #[.slice A n c, .int .i64 x, .int .i64 y] w fun e w' => ∃ A' cap, e = .returned (.tuple #[.slice A' m cap, .int .i64 0]) ∧ m ≤ cap ∧ Nw w' w.heap.size A' m (U8 (fun j => f (p + j))) ∧ Since w w' := by
  subst hx; subst hy
  refine (ref_cut A n c f p m w h (by unfold In64; omega) (by unfold In64; omega) hn hnc).mono ?_
  rintro e w' ⟨A', l, cap, rfl, hl, hc, hN, hS⟩
  obtain ⟨e1, e2⟩ := cut_yes (n := n) (k := m) (i := p) ⟨by omega, by unfold Fits; omega⟩
  rw [e2] at hl
  subst hl
  exact ⟨A', cap, by rw [e1], hc, hN, hS⟩
theorem rcut_l_no (A : Option Addr) (n c : Nat) (f : Nat → Int) (p m : Nat) (x y : Int) (w : World) (h : Rd w w.heap.size A n (U8 f)) (hx : x = p) (hy : y = m) (hp : n < p + m) (hpn : p ≤ 180000000000000) (hm : m ≤ 180000000000000) (hn : n ≤ 140737488355328) (hnc : n ≤ c) :
    Calls Try.prog 52 #[.slice A n c, .int .i64 x, .int .i64 y] w fun e w' => ∃ A' cap, e = .returned (.tuple #[.slice A' 0 cap, .int .i64 3]) ∧ Since w w' := by
  subst hx; subst hy
  refine (ref_cut A n c f p m w h (by unfold In64; omega) (by unfold In64; omega) hn hnc).mono ?_
  rintro e w' ⟨A', l, cap, rfl, hl, hc, hN, hS⟩
  obtain ⟨e1, e2⟩ := cut_no (n := n) (k := m) (i := p) (by unfold Fits; omega)
  rw [e2] at hl
  subst hl
  exact ⟨A', cap, by rw [e1], hS⟩

theorem co_rmat (A : Option Addr) (n c : Nat) (f : Nat → Int) (p k : Nat) (x y : Int) (w : World) (h : Rd w w.heap.size A n (U8 f)) (hf : ∀ j, j < n → 0 ≤ f j ∧ f j ≤ 255) (hx : x = p) (hy : y = k) (hk : k = 0 ∨ k = 1 ∨ k = 2 ∨ k = 4) (hp : p + 2 * k ≤ n) (hn : n ≤ 140737488355328) :
    Calls Try.prog 70 #[.slice A n c, .int .i64 x, .int .i64 y] w fun e w' => e = .returned (.agg (matA f p k).toArray) ∧ Since w w' := by
  subst hy
  rcases hk with rfl | rfl | rfl | rfl
  · exact co_rmat0 A n c f p x w h hf hx hp hn
  · exact co_rmat1 A n c f p x w h hf hx hp hn
  · exact co_rmat2 A n c f p x w h hf hx hp hn
  · exact co_rmat4 A n c f p x w h hf hx hp hn
section
variable {P : Program} {fn : Func} {R : Ending → World → Prop} {a : Act} {w : World}
/-- The end of a function whose results are a struct in memory and three numbers. -/
theorem ret_agg_tmp3 {p q1 q2 q3 ty : Nat} {b : Nat} {cs : List Value} {d : TypeDesc} {x1 x2 x3 : Value} (hf : fn.results = #[.cell p ty, .tmp q1, .tmp q2, .tmp q3]) (hp : a.tmps.getD p undef = .pointer (some ⟨b, 0, none⟩)) (hc : w.rangeAt b 0 cs)
    (hu : P.underlying ty = some d) (hd : d.isRow = true) (hi : (P.info? ty).map (·.size) = some cs.length) (h1 : a.tmps.getD q1 undef = x1) (h2 : a.tmps.getD q2 undef = x2) (h3 : a.tmps.getD q3 undef = x3) (hdf : a.defers = []) (hR : R (.returned (.tuple #[.agg cs.toArray, x1, x2, x3])) w) : bodyPost P fn R .ret a w := by
  refine bodyPost_ret (v := .tuple #[.agg cs.toArray, x1, x2, x3]) ?_ hdf hR
  simp only [results, hf]
  have hl := run_loadVar_mid (P := P) w b 0 ty cs d hc hu hd hi
  have hp' : a.tmps[p]?.getD undef = .pointer (some ⟨b, 0, none⟩) := by simpa using hp
  have h1' : a.tmps[q1]?.getD undef = x1 := by simpa using h1
  have h2' : a.tmps[q2]?.getD undef = x2 := by simpa using h2
  have h3' : a.tmps[q3]?.getD undef = x3 := by simpa using h3
  simp [hp', asAddr, hl, h1', h2', h3']
end
def ptV (p : Pt8) : List Value := [.int .i64 p.g, .int .i64 p.x, .int .i64 p.y, .int .i64 p.m0, .int .i64 p.m1, .int .i64 p.m2, .int .i64 p.m3]
theorem range7 {w : World} {b : Nat} {v0 v1 v2 v3 v4 v5 v6 : Value} (h0 : w.cell? ⟨b, 0, none⟩ = some v0) (h1 : w.cell? ⟨b, 1, none⟩ = some v1) (h2 : w.cell? ⟨b, 2, none⟩ = some v2) (h3 : w.cell? ⟨b, 3, none⟩ = some v3) (h4 : w.cell? ⟨b, 4, none⟩ = some v4) (h5 : w.cell? ⟨b, 5, none⟩ = some v5) (h6 : w.cell? ⟨b, 6, none⟩ = some v6) : w.rangeAt b 0 [v0, v1, v2, v3, v4, v5, v6] := fun j v hv => by
  have hj : j = 0 ∨ j = 1 ∨ j = 2 ∨ j = 3 ∨ j = 4 ∨ j = 5 ∨ j = 6 := by
    have : j < 7 := by
      rcases Nat.lt_or_ge j 7 with h | h
      · exact h
      · rw [List.getElem?_eq_none (by simpa using h)] at hv; cases hv
    omega
  rcases hj with rfl | rfl | rfl | rfl | rfl | rfl | rfl <;> (simp at hv; subst hv; assumption)
def zPt : Pt8 := ⟨0, 0, 0, 0, 0, 0, 0⟩
theorem rd_part7 {w : World} {A : Option Addr} {n : Nat} {V : Nat → Value} (h : Rd w w.heap.size A n V) (o : Obj) : Rd (w.alloc o) (w.alloc o).heap.size A n V := h.on ((Since.refl w).alloc o)
theorem nm8_or (x : Int) : nm8 x = 0 ∨ nm8 x = 1 ∨ nm8 x = 2 ∨ nm8 x = 4 := by unfold nm8; split <;> (try split) <;> (try split) <;> omega
theorem wd8_or (x : Int) : (Has8 x 1 ∧ wd8 x = 2) ∨ (¬ Has8 x 1 ∧ wd8 x = 1) := by
  unfold wd8; by_cases h : Has8 x 1
  · exact .inl ⟨h, if_pos h⟩
  · exact .inr ⟨h, if_neg h⟩
set_option maxRecDepth 100000 in
set_option maxHeartbeats 4000000 in
theorem co_part_no (A : Option Addr) (n c : Nat) (f : Nat → Int) (p : Nat) (x E : Int) (w : World) (h : Rd w w.heap.size A n (U8 f)) (hf : ∀ j, j < n → 0 ≤ f j ∧ f j ≤ 255) (hx : x = p) (hpn : p ≤ 170000000000000) (hn : n ≤ 140737488355328) (hnc : n ≤ c) (he : pe8 f n p = E) (hE : E ≠ 0) :
    Calls Try.prog 59 #[.slice A n c, .int .i64 x] w fun e w' => e = .returned (.tuple #[.agg (ptV zPt).toArray, .int .i64 0, .int .i64 0, .int .i64 E]) ∧ Since w w' := by
  subst hx
  have hpi : (p : Int) ≤ 170000000000000 := by omega
  have ht1 := rd_part7 h (.cells #[.int .i64 0, .int .i64 0, .int .i64 0, .int .i64 0, .int .i64 0, .int .i64 0, .int .i64 0] 44)
  unfold pe8 at he
  have tok1 := True.intro
  by_cases h4 : n < p + 4
  · rw [if_pos h4] at he
    subst he
    by_cases h2 : n < p + 2
    · clear h
      go_enter Try.func59, Try.ntmps59
      go_wp2_with (first | (go_at_call 55; have _t := tok1; (with_reducible refine (u_out A n c f p 2 _ _ _ ht1 hf (by omega) (by omega) (by omega) (by omega) (by omega) (by omega)).mono ?_); rintro e w2 ⟨rfl, rfl⟩; clear tok1; have tok2 := True.intro) | (go_at_call 55; have _t := tok2; (with_reducible refine (u_out A n c f (p + 2) 2 _ _ _ ht1 hf (by omega) (by omega) (by omega) (by omega) (by omega) (by omega)).mono ?_); rintro e w3 ⟨rfl, rfl⟩))
      refine ret_agg_tmp3 rfl rfl (cs := ptV zPt) (range7 (by simp [go_sem]; rfl) (by simp [go_sem]; rfl) (by simp [go_sem]; rfl) (by simp [go_sem]; rfl) (by simp [go_sem]; rfl) (by simp [go_sem]; rfl) (by simp [go_sem]; rfl)) Try.underlying44 rfl (by kernel_rfl) rfl rfl rfl rfl ⟨rfl, by (repeat (first | with_reducible (exact Since.refl _) | with_reducible assumption | with_reducible (refine Since.drew ?_) | with_reducible (refine Since.drewN ?_ _) | with_reducible (refine Since.alloc ?_ _) | (with_reducible (refine Since.setCell ?_ ?_ _); rotate_left; focus (first | (simp; done) | (simp; omega) | omega)) | (with_reducible (refine Since.trans ?_ (by with_reducible assumption)))))⟩
    · clear h
      have hr := numAt_range (f := f) (p := p) (k := 2) (fun j hj => hf j (by omega))
      generalize numAt f p 2 = fl at *
      go_enter Try.func59, Try.ntmps59
      go_wp2_with (first | (go_at_call 55; have _t := tok1; (with_reducible refine (u_in A n c f p 2 _ _ _ ht1 hf (by omega) (by omega) (by omega) (by omega) (by omega)).mono ?_); rintro e w2 ⟨rfl, rfl⟩; clear tok1; have tok2 := True.intro) | (go_at_call 55; have _t := tok2; (with_reducible refine (u_out A n c f (p + 2) 2 _ _ _ ht1 hf (by omega) (by omega) (by omega) (by omega) (by omega) (by omega)).mono ?_); rintro e w3 ⟨rfl, rfl⟩))
      refine ret_agg_tmp3 rfl rfl (cs := ptV zPt) (range7 (by simp [go_sem]; rfl) (by simp [go_sem]; rfl) (by simp [go_sem]; rfl) (by simp [go_sem]; rfl) (by simp [go_sem]; rfl) (by simp [go_sem]; rfl) (by simp [go_sem]; rfl)) Try.underlying44 rfl (by kernel_rfl) rfl rfl rfl rfl ⟨rfl, by (repeat (first | with_reducible (exact Since.refl _) | with_reducible assumption | with_reducible (refine Since.drew ?_) | with_reducible (refine Since.drewN ?_ _) | with_reducible (refine Since.alloc ?_ _) | (with_reducible (refine Since.setCell ?_ ?_ _); rotate_left; focus (first | (simp; done) | (simp; omega) | omega)) | (with_reducible (refine Since.trans ?_ (by with_reducible assumption)))))⟩
  rw [if_neg h4] at he
  have hr := numAt_range (f := f) (p := p) (k := 2) (fun j hj => hf j (by omega))
  simp only [Int.reducePow] at hr
  by_cases hb : Has8 (fl8 f p) 2
  · rw [if_neg (by simp [hb])] at he
    by_cases h5 : n < p + sz8 (fl8 f p)
    · rw [if_pos h5] at he
      subst he
      unfold fl8 at hb h5
      have HM : ∀ w2, Calls Try.prog 69 #[.int .i64 (numAt f p 2)] w2 fun e w' => e = .returned (.int .i64 (nm8 (numAt f p 2))) ∧ w' = w2 := fun w2 => co_msize _ w2 hr.1 hr.2
      have a2 := (and_b2 hr.1 (by omega)).1 hb
      have a1 := and_b1 (x := numAt f p 2) hr.1 (by omega)
      have hU : ∀ w2, Rd w2 w2.heap.size A n (U8 f) → Calls Try.prog 55 #[.slice A n c, .int .i64 (p : Int), .int .i64 2] w2 fun e w' => e = .returned (.tuple #[.int .i64 (numAt f p 2), .int .i64 0]) ∧ w' = w2 := fun w2 h2 => u_in A n c f p 2 _ _ w2 h2 hf (by omega) (by omega) (by omega) (by omega) (by omega)
      have hV : ∀ w2, Rd w2 w2.heap.size A n (U8 f) → Calls Try.prog 55 #[.slice A n c, .int .i64 ((p : Int) + 2), .int .i64 2] w2 fun e w' => e = .returned (.tuple #[.int .i64 (numAt f (p + 2) 2), .int .i64 0]) ∧ w' = w2 := fun w2 h2 => u_in A n c f (p + 2) 2 _ _ w2 h2 hf (by omega) (by omega) (by omega) (by omega) (by omega)
      have hk := nm8_or (numAt f p 2)
      have hw := wd8_or (numAt f p 2)
      unfold sz8 at h5
      generalize numAt f p 2 = fl at *
      generalize numAt f (p + 2) 2 = gl at *
      generalize nm8 fl = k at *
      have hki : (k : Int) ≤ 4 := by omega
      have HU := Lib.hid hU
      have HV := Lib.hid hV
      have HMM := Lib.hid HM
      have HF := Lib.hid hf
      have H0 := Lib.hid h
      clear hU hV HM hr hb hf hk h
      rcases hw with ⟨c1, hw⟩ | ⟨c1, hw⟩
      · rw [hw] at h5
        have d1 := a1.1 c1
        clear a1 c1 hw
        go_enter Try.func59, Try.ntmps59
        go_wp2_with (first | (go_at_call 55; have _t := tok1; (with_reducible refine (HU.out _ ht1).mono ?_); rintro e w2 ⟨rfl, rfl⟩; clear tok1; have tok2 := True.intro) | (go_at_call 55; have _t := tok2; (with_reducible refine (HV.out _ ht1).mono ?_); rintro e w3 ⟨rfl, rfl⟩; clear tok2) | (go_at_call 69; (with_reducible refine (HMM.out _).mono ?_); rintro e w4 ⟨rfl, rfl⟩) | (go_at_call 56; (with_reducible refine (cut_l_no A n c f p (4 + 2 * 2 + 2 * k) _ _ _ (rd_part7 H0.out _) rfl (by omega) (by omega) (by omega) (by omega) (by omega) hnc).mono ?_); rintro e w5 ⟨A5, c5, rfl, hS5⟩; have hT5 : Since w w5 := (by (repeat (first | with_reducible (exact Since.refl _) | with_reducible assumption | with_reducible (refine Since.drew ?_) | with_reducible (refine Since.drewN ?_ _) | with_reducible (refine Since.alloc ?_ _) | (with_reducible (refine Since.setCell ?_ ?_ _); rotate_left; focus (first | (simp; done) | (simp; omega) | omega)) | (with_reducible (refine Since.trans ?_ (by with_reducible assumption)))))); obtain ⟨hc5, hf5, hz5, hb5⟩ := hS5; have hq5 : w.heap.size < w.heap.size + 1 := (by omega); have hp5 := hz5 w.heap.size (by simp); have hp6 := Nat.le_of_lt hp5; have k0 : w5.cell? ⟨w.heap.size, 0, none⟩ = some (.int .i64 gl) := (hc5 _ _ (by simp)).trans (by simp); have k1 : w5.cell? ⟨w.heap.size, 1, none⟩ = some (.int .i64 0) := (hc5 _ _ (by simp)).trans (by simp); have k2 : w5.cell? ⟨w.heap.size, 2, none⟩ = some (.int .i64 0) := (hc5 _ _ (by simp)).trans (by simp); have k3 : w5.cell? ⟨w.heap.size, 3, none⟩ = some (.int .i64 0) := (hc5 _ _ (by simp)).trans (by simp); have k4 : w5.cell? ⟨w.heap.size, 4, none⟩ = some (.int .i64 0) := (hc5 _ _ (by simp)).trans (by simp); have k5 : w5.cell? ⟨w.heap.size, 5, none⟩ = some (.int .i64 0) := (hc5 _ _ (by simp)).trans (by simp); have k6 : w5.cell? ⟨w.heap.size, 6, none⟩ = some (.int .i64 0) := (hc5 _ _ (by simp)).trans (by simp)))
        refine ret_agg_tmp3 rfl rfl (cs := ptV zPt) (range7 (by simp [go_sem, zPt, k0]) (by simp [go_sem, zPt, k1]) (by simp [go_sem, zPt, k2]) (by simp [go_sem, zPt, k3]) (by simp [go_sem, zPt, k4]) (by simp [go_sem, zPt, k5]) (by simp [go_sem, zPt, k6])) Try.underlying44 rfl (by kernel_rfl) rfl rfl rfl rfl ⟨rfl, ?_⟩
        (repeat (first | with_reducible (exact Since.refl _) | with_reducible assumption | with_reducible (refine Since.drew ?_) | with_reducible (refine Since.drewN ?_ _) | with_reducible (refine Since.alloc ?_ _) | (with_reducible (refine Since.setCell ?_ ?_ _); rotate_left; focus (first | (simp; done) | (simp; omega) | omega)) | (with_reducible (refine Since.trans ?_ (by with_reducible assumption)))))
      · rw [hw] at h5
        have d1 := a1.2 c1
        clear a1 c1 hw
        go_enter Try.func59, Try.ntmps59
        go_wp2_with (first | (go_at_call 55; have _t := tok1; (with_reducible refine (HU.out _ ht1).mono ?_); rintro e w2 ⟨rfl, rfl⟩; clear tok1; have tok2 := True.intro) | (go_at_call 55; have _t := tok2; (with_reducible refine (HV.out _ ht1).mono ?_); rintro e w3 ⟨rfl, rfl⟩; clear tok2) | (go_at_call 69; (with_reducible refine (HMM.out _).mono ?_); rintro e w4 ⟨rfl, rfl⟩) | (go_at_call 56; (with_reducible refine (cut_l_no A n c f p (4 + 2 * 1 + 2 * k) _ _ _ (rd_part7 H0.out _) rfl (by omega) (by omega) (by omega) (by omega) (by omega) hnc).mono ?_); rintro e w5 ⟨A5, c5, rfl, hS5⟩; have hT5 : Since w w5 := (by (repeat (first | with_reducible (exact Since.refl _) | with_reducible assumption | with_reducible (refine Since.drew ?_) | with_reducible (refine Since.drewN ?_ _) | with_reducible (refine Since.alloc ?_ _) | (with_reducible (refine Since.setCell ?_ ?_ _); rotate_left; focus (first | (simp; done) | (simp; omega) | omega)) | (with_reducible (refine Since.trans ?_ (by with_reducible assumption)))))); obtain ⟨hc5, hf5, hz5, hb5⟩ := hS5; have hq5 : w.heap.size < w.heap.size + 1 := (by omega); have hp5 := hz5 w.heap.size (by simp); have hp6 := Nat.le_of_lt hp5; have k0 : w5.cell? ⟨w.heap.size, 0, none⟩ = some (.int .i64 gl) := (hc5 _ _ (by simp)).trans (by simp); have k1 : w5.cell? ⟨w.heap.size, 1, none⟩ = some (.int .i64 0) := (hc5 _ _ (by simp)).trans (by simp); have k2 : w5.cell? ⟨w.heap.size, 2, none⟩ = some (.int .i64 0) := (hc5 _ _ (by simp)).trans (by simp); have k3 : w5.cell? ⟨w.heap.size, 3, none⟩ = some (.int .i64 0) := (hc5 _ _ (by simp)).trans (by simp); have k4 : w5.cell? ⟨w.heap.size, 4, none⟩ = some (.int .i64 0) := (hc5 _ _ (by simp)).trans (by simp); have k5 : w5.cell? ⟨w.heap.size, 5, none⟩ = some (.int .i64 0) := (hc5 _ _ (by simp)).trans (by simp); have k6 : w5.cell? ⟨w.heap.size, 6, none⟩ = some (.int .i64 0) := (hc5 _ _ (by simp)).trans (by simp)))
        refine ret_agg_tmp3 rfl rfl (cs := ptV zPt) (range7 (by simp [go_sem, zPt, k0]) (by simp [go_sem, zPt, k1]) (by simp [go_sem, zPt, k2]) (by simp [go_sem, zPt, k3]) (by simp [go_sem, zPt, k4]) (by simp [go_sem, zPt, k5]) (by simp [go_sem, zPt, k6])) Try.underlying44 rfl (by kernel_rfl) rfl rfl rfl rfl ⟨rfl, ?_⟩
        (repeat (first | with_reducible (exact Since.refl _) | with_reducible assumption | with_reducible (refine Since.drew ?_) | with_reducible (refine Since.drewN ?_ _) | with_reducible (refine Since.alloc ?_ _) | (with_reducible (refine Since.setCell ?_ ?_ _); rotate_left; focus (first | (simp; done) | (simp; omega) | omega)) | (with_reducible (refine Since.trans ?_ (by with_reducible assumption)))))
    · rw [if_neg h5] at he
      exact absurd he.symm hE
  · rw [if_pos hb] at he
    subst he
    unfold fl8 at hb
    have a2 := (and_b2 (x := numAt f p 2) hr.1 (by omega)).2 hb
    clear h
    generalize numAt f (p + 2) 2 = gl at *
    go_enter Try.func59, Try.ntmps59
    go_wp2_with (first | (go_at_call 55; have _t := tok1; (with_reducible refine (u_in A n c f p 2 _ _ _ ht1 hf (by omega) (by omega) (by omega) (by omega) (by omega)).mono ?_); rintro e w2 ⟨rfl, rfl⟩; clear tok1; have tok2 := True.intro) | (go_at_call 55; have _t := tok2; (with_reducible refine (u_in A n c f (p + 2) 2 _ _ _ ht1 hf (by omega) (by omega) (by omega) (by omega) (by omega)).mono ?_); rintro e w3 ⟨rfl, rfl⟩))
    refine ret_agg_tmp3 rfl rfl (cs := ptV zPt) (range7 (by simp [go_sem]; rfl) (by simp [go_sem]; rfl) (by simp [go_sem]; rfl) (by simp [go_sem]; rfl) (by simp [go_sem]; rfl) (by simp [go_sem]; rfl) (by simp [go_sem]; rfl)) Try.underlying44 rfl (by kernel_rfl) rfl rfl rfl rfl ⟨rfl, by (repeat (first | with_reducible (exact Since.refl _) | with_reducible assumption | with_reducible (refine Since.drew ?_) | with_reducible (refine Since.drewN ?_ _) | with_reducible (refine Since.alloc ?_ _) | (with_reducible (refine Since.setCell ?_ ?_ _); rotate_left; focus (first | (simp; done) | (simp; omega) | omega)) | (with_reducible (refine Since.trans ?_ (by with_reducible assumption)))))⟩
end Go.Proofs.Ytcjjcjpkmjbfkaa

/-
  Layer 7: small functions, walked: fits, readStep; short of the reference.
-/
namespace Go.Proofs.Ytcjjcjpkmjbfkaa
open Go.RowKit Go.ChangeShapes Go.WideShapes Go.Deep
set_option linter.unusedVariables false
set_option linter.unusedSimpArgs false


set_option maxHeartbeats 4000000 in
theorem si_fits (v : Int) (w : World) : Calls Try.prog 72 #[.int .i64 v] w fun e w' => e = .returned (.bool (decide (Sh v))) ∧ w' = w := by
  by_cases h1 : -32768 ≤ v
  · by_cases h2 : v ≤ 32767
    · have E := Lib.hid (show decide (Sh v) = true from decide_eq_true (by unfold Sh; omega))
      have d1 : decide (-32768 ≤ v) = true := by simpa using h1
      have d2 : decide (v ≤ 32767) = true := by simpa using h2
      clear h1 h2
      go_enter Try.func72, Try.ntmps72
      go_wp2_with fail
      go_ret
      rw [E.out]
      exact ⟨by first | rfl | simp, rfl⟩
    · have E := Lib.hid (show decide (Sh v) = false from decide_eq_false (by unfold Sh; omega))
      have d1 : decide (-32768 ≤ v) = true := by simpa using h1
      have d2 : decide (v ≤ 32767) = false := by simpa using h2
      clear h1 h2
      go_enter Try.func72, Try.ntmps72
      go_wp2_with fail
      go_ret
      rw [E.out]
      exact ⟨by first | rfl | simp, rfl⟩
  · have E := Lib.hid (show decide (Sh v) = false from decide_eq_false (by unfold Sh; omega))
    have d1 : decide (-32768 ≤ v) = false := by simpa using h1
    clear h1
    go_enter Try.func72, Try.ntmps72
    go_wp2_with fail
    go_ret
    rw [E.out]
    exact ⟨by first | rfl | simp, rfl⟩

set_option maxHeartbeats 4000000 in
theorem rf_short7 (v : Int) (w : World) : Calls Try.prog 24 #[.int .i64 v] w fun e w' => e = .returned (.bool (decide (Sh v))) ∧ w' = w := by
  by_cases h1 : -32768 ≤ v
  · by_cases h2 : v ≤ 32767
    · have E := Lib.hid (show decide (Sh v) = true from decide_eq_true (by unfold Sh; omega))
      have d1 : decide (-32768 ≤ v) = true := by simpa using h1
      have d2 : decide (v ≤ 32767) = true := by simpa using h2
      clear h1 h2
      go_enter Try.func24, Try.ntmps24
      go_wp2_with fail
      go_ret
      rw [E.out]
      exact ⟨by first | rfl | simp, rfl⟩
    · have E := Lib.hid (show decide (Sh v) = false from decide_eq_false (by unfold Sh; omega))
      have d1 : decide (-32768 ≤ v) = true := by simpa using h1
      have d2 : decide (v ≤ 32767) = false := by simpa using h2
      clear h1 h2
      go_enter Try.func24, Try.ntmps24
      go_wp2_with fail
      go_ret
      rw [E.out]
      exact ⟨by first | rfl | simp, rfl⟩
  · have E := Lib.hid (show decide (Sh v) = false from decide_eq_false (by unfold Sh; omega))
    have d1 : decide (-32768 ≤ v) = false := by simpa using h1
    clear h1
    go_enter Try.func24, Try.ntmps24
    go_wp2_with fail
    go_ret
    rw [E.out]
    exact ⟨by first | rfl | simp, rfl⟩

theorem num_one (f : Nat → Int) (p : Nat) : numAt f p 1 = f p := by simp [numAt]
/-- A step's width and value, by the two bits. -/
def swB (s u : Bool) : Nat := if s then 1 else if u then 0 else 2
def svB (f : Nat → Int) (s u : Bool) (p : Nat) : Int := if s then (if u then f p else - f p) else if u then 0 else sgn 2 (numAt f p 2)
theorem swB_is (is sm g : Int) : sw7 is sm g = swB (decide (Has8 g is)) (decide (Has8 g sm)) := by
  unfold sw7 swB; simp only [decide_eq_true_eq]
theorem svB_is (f : Nat → Int) (is sm g : Int) (p : Nat) : sv7 f is sm g p = svB f (decide (Has8 g is)) (decide (Has8 g sm)) p := by
  unfold sv7 svB; simp only [decide_eq_true_eq]
set_option maxHeartbeats 4000000 in
theorem si_step (A : Option Addr) (n c : Nat) (f : Nat → Int) (p : Nat) (x : Int) (s u : Bool) (w : World) (h : Rd w w.heap.size A n (U8 f)) (hf : ∀ j, j < n → 0 ≤ f j ∧ f j ≤ 255) (hx : x = p) (hp : p + swB s u ≤ n) (hn : n ≤ 140737488355328) :
    Calls Try.prog 71 #[.slice A n c, .int .i64 x, .bool s, .bool u] w fun e w' => e = .returned (.tuple #[.int .i64 (svB f s u p), .int .i64 (swB s u), .int .i64 0]) ∧ w' = w := by
  have hpn : (p : Int) ≤ 140737488355328 := by omega
  subst hx
  cases s
  · cases u
    · have hp' : p + 2 ≤ n := hp
      have hC := s_in A n c f p 2 p 2 w h hf rfl rfl (by omega) hp' hn
      have E := Lib.hid (show svB f false false p = sgn 2 (numAt f p 2) from rfl)
      clear h hf hp hp'
      go_enter Try.func71, Try.ntmps71
      go_wp2_with (go_at_call 53; (with_reducible refine hC.mono ?_); rintro e w2 ⟨rfl, rfl⟩)
      go_ret3
      rw [E.out]
      exact ⟨by first | rfl | simp [swB], rfl⟩
    · clear h hf hp
      go_enter Try.func71, Try.ntmps71
      go_wp2_with fail
      go_ret3
      exact ⟨by first | rfl | simp [swB, svB], rfl⟩
  · have hp' : p + 1 ≤ n := hp
    have hC := u_in A n c f p 1 p 1 w h hf rfl rfl (by omega) hp' hn
    rw [num_one] at hC
    have hr := hf p (by omega)
    have hneg : IntKind.i64.wrap (-(f p)) = - f p := by rw [IntKind.wrap_i64]; omega
    clear h hf hp hp'
    cases u
    · have E := Lib.hid (show svB f true false p = - f p from rfl)
      go_enter Try.func71, Try.ntmps71
      go_wp2_with (go_at_call 55; (with_reducible refine hC.mono ?_); rintro e w2 ⟨rfl, rfl⟩)
      go_ret3
      rw [E.out]
      exact ⟨by first | rfl | simp [swB], rfl⟩
    · have E := Lib.hid (show svB f true true p = f p from rfl)
      go_enter Try.func71, Try.ntmps71
      go_wp2_with (go_at_call 55; (with_reducible refine hC.mono ?_); rintro e w2 ⟨rfl, rfl⟩)
      go_ret3
      rw [E.out]
      exact ⟨by first | rfl | simp [swB], rfl⟩
set_option maxHeartbeats 4000000 in
theorem si_step_no (A : Option Addr) (n c : Nat) (f : Nat → Int) (p : Nat) (x : Int) (s u : Bool) (w : World) (h : Rd w w.heap.size A n (U8 f)) (hf : ∀ j, j < n → 0 ≤ f j ∧ f j ≤ 255) (hx : x = p) (hpn : p ≤ n) (hp : n < p + swB s u) (hn : n ≤ 140737488355328) :
    Calls Try.prog 71 #[.slice A n c, .int .i64 x, .bool s, .bool u] w fun e w' => e = .returned (.tuple #[.int .i64 0, .int .i64 (swB s u), .int .i64 3]) ∧ w' = w := by
  have hpn' : (p : Int) ≤ 140737488355328 := by omega
  subst hx
  cases s
  · cases u
    · have hp' : n < p + 2 := hp
      have hC := s_out A n c f p 2 p 2 w h hf rfl rfl (by omega) hp' (by omega) hn
      clear h hf hp hp' hpn
      go_enter Try.func71, Try.ntmps71
      go_wp2_with (go_at_call 53; (with_reducible refine hC.mono ?_); rintro e w2 ⟨rfl, rfl⟩)
      go_ret3
      exact ⟨by first | rfl | simp [swB], rfl⟩
    · exact absurd hp (by simp [swB]; omega)
  · have hp' : n < p + 1 := hp
    have hC := u_out A n c f p 1 p 1 w h hf rfl rfl (by omega) hp' (by omega) hn
    clear h hf hp hp' hpn
    cases u
    all_goals
      go_enter Try.func71, Try.ntmps71
      go_wp2_with (go_at_call 55; (with_reducible refine hC.mono ?_); rintro e w2 ⟨rfl, rfl⟩)
      go_ret3
      exact ⟨by first | rfl | simp [swB], rfl⟩
end Go.Proofs.Ytcjjcjpkmjbfkaa

/-
  Whole numbers as lists: rows that read so, rows of a call's own.
-/
namespace Go.Proofs.Ytcjjcjpkmjbfkaa
open Go.RowKit Go.ChangeShapes Go.WideShapes Go.Deep
set_option linter.unusedVariables false

def inL (x : Int) : List Value := [.int .i64 x]
theorem inL_len (x : Int) : (inL x).length = 1 := rfl
theorem inL_one (x : Int) : ∀ u ∈ inL x, u.oneCell' = true := by
  intro u hu
  simp only [inL, List.mem_cons, List.not_mem_nil, or_false] at hu
  subst hu
  rfl
abbrev RdI (w : World) (B : Nat) (A : Option Addr) (L : List Int) : Prop := RdG 1 inL w B A L
abbrev OwnI (w : World) (base : Nat) (v : Value) (L : List Int) : Prop := OwnG 3 1 inL w base v L
theorem infoIn0 : (Try.prog.info? 3).map (fun i => (i.zero, i.size, i.bytes)) = some (some (.int .i64 0), 1, 8) := by kernel_rfl
theorem infoIn : ∃ i z, Try.prog.info? 3 = some i ∧ i.zero = some z ∧ i.size = 1 ∧ i.bytes = 8 ∧ z.cells.size = 1 := by
  obtain ⟨i0, hi, hz0, hz1, hz2⟩ := info_parts infoIn0
  exact ⟨i0, _, hi, hz0, hz1, hz2, rfl⟩
theorem rdi_new (w : World) (b : Nat) (hb : b = w.heap.size) (t : TypeId) (cs : Array Value) (L : List Int) (hcs : cs = (L.map (Value.int .i64)).toArray) : RdI (w.alloc (.cells cs t)) (w.alloc (.cells cs t)).heap.size (some ⟨b, 0, none⟩) L := by
  subst hcs
  refine rdG_lit hb L (fun j s hj i hi => ?_)
  obtain rfl : i = 0 := by omega
  simp [hj, inL]
theorem RdG.dn {α : Type} {k : Nat} {enc : α → List Value} {w : World} {B : Nat} {A : Option Addr} {L : List α} (h : RdG k enc w B A L) (j : Nat) : RdG k enc (w.drewN j) B A L := h
theorem ownI_new (w : World) (base b n : Nat) (hb : b = w.heap.size) (hB : base ≤ w.heap.size) (cs : Array Value) (L : List Int) (hn : n = L.length) (hcs : cs = (L.map (Value.int .i64)).toArray) (hL : L.length ≤ 1000) : OwnG 3 1 inL (w.alloc (.cells cs 3)) base (.slice (some ⟨b, 0, none⟩) n n) L := by
  subst hb; subst hn; subst hcs
  have e : cellsG inL L = L.map (Value.int .i64) := by
    clear hL
    induction L with
    | nil => rfl
    | cons a l ih => unfold cellsG at ih ⊢; rw [List.flatMap_cons, List.map_cons, ih]; rfl
  exact ⟨by rw [cellsG_len inL_len], .inr ⟨w.heap.size, L.length, _, rfl, hB, heap_alloc_new w _, Nat.le_refl _, by simp only [maxLen]; omega, by simp, by rw [e, Nat.mul_one]; exact List.take_of_length_le (by simp)⟩⟩
abbrev I64 (f : Nat → Int) : Nat → Value := IntRow .i64 f
section
variable {w w' : World} {B n : Nat} {A : Option Addr} {L : List Int} {f : Nat → Int}
theorem rdi_rd (h : RdI w B A L) : Rd w B A L.length (I64 (fnL L)) := fun hn => by
  obtain ⟨b, o, rfl, hb, hc⟩ := h hn
  refine ⟨b, o, rfl, hb, fun j hj => ?_⟩
  have h1 := hc j _ (fnL_get hj) 0 (by omega)
  rw [Nat.mul_one, Nat.add_zero] at h1
  exact h1
theorem rdi_rd' (h : RdI w B A L) (hn : n = L.length) : Rd w B A n (I64 (fnL L)) := by subst hn; exact rdi_rd h
theorem rdi_of (h : Rd w B A n (I64 f)) (hn : n = L.length) (hf : ∀ j, j < n → f j = fnL L j) : RdI w B A L := fun h0 => by
  subst hn
  obtain ⟨b, o, rfl, hb, hc⟩ := h h0
  refine ⟨b, o, rfl, hb, fun j s hj i hi => ?_⟩
  obtain rfl : i = 0 := by omega
  have hjl : j < L.length := by
    rcases Nat.lt_or_ge j L.length with h | h
    · exact h
    · rw [List.getElem?_eq_none h] at hj; cases hj
  rw [fnL_get hjl] at hj
  injection hj with hj
  subst hj
  rw [Nat.mul_one, Nat.add_zero, hc j hjl]; simp only [I64, IntRow]; rw [hf j hjl]
  rfl
end
/-- A new block that holds one number. -/
theorem in_one (w : World) (b : Nat) (hb : b = w.heap.size) (ty : TypeId) (x : Int) : RdI (w.alloc (.cells #[.int .i64 x] ty)) (w.alloc (.cells #[.int .i64 x] ty)).heap.size (some ⟨b, 0, none⟩) [x] :=
  rdG_one hb x (fun i hi => by
    obtain rfl : i = 0 := by omega
    rfl)
section
variable {P : Program}
/-- append of one number, just built, to numbers of the call's own. -/
theorem wpList_append_i {w w0 : World} {ops : Array Oper} {rest : List Oper} {o : Oper} {a : Act} {Q : Exit → Act → World → Prop} (hgd : o.guard = none) (s x : Operand)
    (ho : o.op = .call { callee := .builtin .append, args := #[s, x], argTypes := #[72, 72] })
    (ty : TypeId) (hS : Since w0 w) (v : Value) (L : List Int) (hs : a.eval s = v) (hown : OwnI w w0.heap.size v L) (b c : Nat) (y : Int) (hx : a.eval x = .slice (some ⟨b, 0, none⟩) 1 c) (hb : b = w.heap.size)
    (hbytes : L.length ≤ 3000000)
    (h : ∀ v' w', OwnI w' w0.heap.size v' (L ++ [y]) → (w.alloc (.cells #[.int .i64 y] ty)).grownBy w' v.ownBlock → (∀ q, v.ownBlock = some q → w0.heap.size ≤ q ∧ q < w.heap.size) → Since w0 w' → wpList Try.prog ops Q rest (a.put o.dst v') w') :
    wpList Try.prog ops Q (o :: rest) a (w.alloc (.cells #[.int .i64 y] ty)) :=
  wpList_append_g hgd s x 72 3 ho (by omega) inL_len inL_one 8 Try.underlying72 infoIn w0.heap.size v L hs (hown.alloc _) _ _ c [y] hx (in_one w b hb ty y) (by simp only [List.length_cons, List.length_nil]; omega) (by simp only [List.length_cons, List.length_nil, maxLen]; omega) (by have := hS.below.size; simp; omega) (fun v' w' h9 hg hlt => h v' w' h9 hg (fun q hq => hown.lt hq) (since_grown (hS.alloc _) hg (fun k hk => (hlt k hk).1)))
end
end Go.Proofs.Ytcjjcjpkmjbfkaa

/-
  Layer 7: readPlaces, walked, where all numbers are read.
-/
namespace Go.Proofs.Ytcjjcjpkmjbfkaa
open Go.RowKit Go.ChangeShapes Go.WideShapes Go.Deep
set_option linter.unusedVariables false
set_option linter.unusedSimpArgs false

def andB (x : Int) (b : Int) (s : Bool) : Prop := decide (Has8 x b) = s ∧ bits .and .i64 x b = if s then b else 0

theorem and7_2 {x : Int} (h0 : 0 ≤ x) (h1 : x ≤ 255) : ∃ s, andB x 2 s := by
  have h := and_pow x 1 h0 (by omega) (by omega)
  simp only [Int.reducePow] at h
  refine ⟨decide (Has8 x 2), rfl, ?_⟩
  rw [h]; unfold Has8
  by_cases e : x / 2 % 2 = 1 <;> simp [e]

theorem and7_4 {x : Int} (h0 : 0 ≤ x) (h1 : x ≤ 255) : ∃ s, andB x 4 s := by
  have h := and_pow x 2 h0 (by omega) (by omega)
  simp only [Int.reducePow] at h
  refine ⟨decide (Has8 x 4), rfl, ?_⟩
  rw [h]; unfold Has8
  by_cases e : x / 4 % 2 = 1 <;> simp [e]

theorem and7_16 {x : Int} (h0 : 0 ≤ x) (h1 : x ≤ 255) : ∃ s, andB x 16 s := by
  have h := and_pow x 4 h0 (by omega) (by omega)
  simp only [Int.reducePow] at h
  refine ⟨decide (Has8 x 16), rfl, ?_⟩
  rw [h]; unfold Has8
  by_cases e : x / 16 % 2 = 1 <;> simp [e]

theorem and7_32 {x : Int} (h0 : 0 ≤ x) (h1 : x ≤ 255) : ∃ s, andB x 32 s := by
  have h := and_pow x 5 h0 (by omega) (by omega)
  simp only [Int.reducePow] at h
  refine ⟨decide (Has8 x 32), rfl, ?_⟩
  rw [h]; unfold Has8
  by_cases e : x / 32 % 2 = 1 <;> simp [e]


set_option maxRecDepth 100000 in
set_option maxHeartbeats 8000000 in
theorem si_places2 (A : Option Addr) (n c : Nat) (f : Nat → Int) (p : Nat) (B : Option Addr) (m d : Nat) (G : List Int) (w : World) (h : Rd w w.heap.size A n (U8 f)) (hf : ∀ j, j < n → 0 ≤ f j ∧ f j ≤ 255) (hg : Rd w w.heap.size B m (I64 (fnL G))) (hm : m = G.length) (hG : Bytes G) (hpn : p ≤ n) (hn : n ≤ 140737488355328) (hm4 : m ≤ 4096)
    (he : (plGo f n 2 16 G 0 p).e = 0) :
    Calls Try.prog 68 #[.slice A n c, .int .i64 p, .slice B m d, .int .i64 2, .int .i64 16] w fun e w' => ∃ b, e = .returned (.tuple #[.slice (some ⟨b, 0, none⟩) m m, .int .i64 (plGo f n 2 16 G 0 p).p, .int .i64 0]) ∧ w.heap.size ≤ b ∧ Rd w' w'.heap.size (some ⟨b, 0, none⟩) m (I64 (fnL (plGo f n 2 16 G 0 p).L)) ∧ Since w w' := by
  have b1 : 8 * m ≤ 281474976710656 := by omega
  have b2 : m ≤ maxLen := by simp only [maxLen]; omega
  have hm5 : (m : Int) ≤ 4096 := by omega
  obtain ⟨T, hT⟩ : ∃ T, T = plGo f n 2 16 G 0 p := ⟨_, rfl⟩
  have H0 := Lib.hid (show (plGo f n 2 16 (G.drop 0) 0 p).e = 0 ∧ T.L = [] ++ (plGo f n 2 16 (G.drop 0) 0 p).L ∧ T.p = (plGo f n 2 16 (G.drop 0) 0 p).p from ⟨he, by rw [hT]; rfl, by rw [hT]; rfl⟩)
  rw [← hT]
  have HG := Lib.hid hG
  have HM := Lib.hid hm
  have HF := Lib.hid hf
  clear he hT hG hm hf
  obtain ⟨i0, hi0, hz0, hz1, hz2⟩ := info_parts infoIn0
  go_enter Try.func68, Try.ntmps68
  go_wp2_with (at_make; refine wpList_make_tab _ (by rfl) _ _ _ (by rfl) 3 i0 .i64 8 Try.underlying72 hi0 hz0 hz1 hz2 .i64 .i64 m (by rfl) (by rfl) b1 b2 ?_; intro w1 hown1 hS1)
  go_loopw [1, 14, 25] (fun qv pv y wr => ∃ (j : Nat) (X : List Int) (v : Int) (q : Nat), j ≤ m ∧ X.length = j ∧ qv = .int .i64 (q : Int) ∧ pv = .int .i64 v ∧ y = .int .i64 (j : Int) ∧ q ≤ n ∧ (-32768 ≤ v ∧ v ≤ 32767) ∧ Since w wr ∧ Row wr w.heap.size m (I64 (fun t => if t < j then fnL X t else 0)) ∧ Hid ((plGo f n 2 16 (G.drop j) v q).e = 0 ∧ T.L = X ++ (plGo f n 2 16 (G.drop j) v q).L ∧ T.p = (plGo f n 2 16 (G.drop j) v q).p)) (fun _ _ y _ => m - (intOf y).toNat)
  case atStart => exact ⟨0, [], 0, p, by omega, rfl, rfl, rfl, rfl, hpn, by omega, hS1, (row_of_own hown1).congr (fun q hq => by simp only [I64, IntRow]; rw [if_neg (by omega)]), H0⟩
  case round =>
    obtain ⟨j, X, v, q, hj, hX, rfl, rfl, rfl, hq, hv, hSr, hR, hT⟩ := hrel
    by_cases hjm : j < m
    · have hjm' : (j : Int) < (m : Int) := by omega
      have hjG : j < G.length := by rw [← HM.out]; exact hjm
      have hcell := hR.1 j hjm
      have hfr := hR.2.1 j
      obtain ⟨t1, t2, t3⟩ := hT.out
      have hgr := HG.out (fnL G j) (List.mem_of_getElem? (fnL_get hjG))
      have hdrop : G.drop j = fnL G j :: G.drop (j + 1) := by
        rw [List.drop_eq_getElem_cons hjG]
        congr 1
        have := fnL_get hjG
        rw [List.getElem?_eq_getElem hjG] at this
        exact Option.some.inj this
      rw [hdrop] at t1 t2 t3
      obtain ⟨k1, k2, k3, k4, k5⟩ := pl_step t1
      obtain ⟨s, hs, hb1⟩ := and7_2 hgr.1 hgr.2
      obtain ⟨u, hu, hb2⟩ := and7_16 hgr.1 hgr.2
      have ew : sw7 2 16 (fnL G j) = swB s u := by rw [swB_is, hs, hu]
      have ev : sv7 f 2 16 (fnL G j) q = svB f s u q := by rw [svB_is, hs, hu]
      rw [ew] at k1 k3 k4 k5
      rw [ev] at k2 k3 k4 k5
      rw [k4] at t2
      rw [k5] at t3
      have hC := si_step A n c f q q s u wr (h.on hSr) HF.out rfl k1 hn
      have hFt := si_fits (v + svB f s u q)
      rw [decide_eq_true k2] at hFt
      obtain ⟨gb, go, rfl, gl, gc⟩ := hg.on hSr (by omega)
      have gcj := gc j hjm
      have hW : swB s u ≤ 2 := by unfold swB; split <;> (try split) <;> omega
      have k2' : -32768 ≤ v + svB f s u q ∧ v + svB f s u q ≤ 32767 := k2
      have hNx := Lib.hid (show (plGo f n 2 16 (G.drop (j + 1)) (v + svB f s u q) (q + swB s u)).e = 0 ∧ T.L = (X ++ [v + svB f s u q]) ++ (plGo f n 2 16 (G.drop (j + 1)) (v + svB f s u q) (q + swB s u)).L ∧ T.p = (plGo f n 2 16 (G.drop (j + 1)) (v + svB f s u q) (q + swB s u)).p from ⟨k3, by rw [t2, List.append_assoc]; rfl, t3⟩)
      clear t1 t2 t3 k3 k4 k5 k2 ew ev hs hu hdrop hT hgr
      have HGJ : ∃ gj, gj = fnL G j := ⟨_, rfl⟩
      obtain ⟨gj, hgj⟩ := HGJ
      rw [← hgj] at hb1 hb2
      have gcj' : wr.cell? ⟨gb, go + j, none⟩ = some (.int .i64 gj) := by rw [gcj, hgj]; rfl
      clear gcj hgj gc h hg
      obtain ⟨z, hz⟩ : ∃ z, z = svB f s u q := ⟨_, rfl⟩
      rw [← hz] at hC hFt hNx k2'
      obtain ⟨W, hWz⟩ : ∃ W, W = swB s u := ⟨_, rfl⟩
      rw [← hWz] at hC hNx hW k1
      clear hz hWz
      have hW0 : (W : Int) ≤ 2 := by omega
      have hqn : (q : Int) ≤ 140737488355328 := by omega
      cases s <;> cases u <;> simp only [if_true, if_false, Bool.false_eq_true] at hb1 hb2
      all_goals
        go_wp2_with (first | (go_at_call 71; (with_reducible refine hC.mono ?_); rintro e w2 ⟨rfl, rfl⟩) | (go_at_call 72; (with_reducible refine (hFt _).mono ?_); rintro e w2 ⟨rfl, rfl⟩))
        go_roundw
        case rel =>
          refine ⟨j + 1, X ++ [v + z], v + z, q + W, by omega, by rw [List.length_append, hX]; rfl, by first | rfl | go_num | simp, by first | rfl | go_num | simp, by first | rfl | go_num | simp, by omega, k2', by (repeat (first | with_reducible (exact Since.refl _) | with_reducible assumption | with_reducible (refine Since.drew ?_) | with_reducible (refine Since.drewN ?_ _) | with_reducible (refine Since.alloc ?_ _) | (with_reducible (refine Since.setCell ?_ ?_ _); rotate_left; focus (first | (simp; done) | (simp; omega) | omega)) | (with_reducible (refine Since.trans ?_ (by with_reducible assumption))))), (hR.set j _).congr (fun t ht => ?_), hNx⟩
          simp only [I64, IntRow]
          by_cases hq : t = j
          · subst hq
            rw [if_pos rfl, if_pos (by omega)]
            unfold fnL; rw [List.getD_eq_getElem?_getD, List.getElem?_append_right (by omega), hX, Nat.sub_self]; rfl
          · rw [if_neg hq]
            by_cases ht2 : t < j
            · rw [if_pos ht2, if_pos (by omega)]
              unfold fnL; rw [List.getD_eq_getElem?_getD, List.getD_eq_getElem?_getD, List.getElem?_append_left (by omega)]
            · rw [if_neg ht2, if_neg (by omega)]
        case measure => simp [intOf]; omega
    · obtain rfl : j = m := by omega
      obtain ⟨t1, t2, t3⟩ := hT.out
      have hd0 : G.drop j = [] := List.drop_eq_nil_of_le (by rw [← HM.out]; omega)
      rw [hd0] at t2 t3
      have hL : T.L = X := by rw [t2]; exact List.append_nil X
      have hP : T.p = q := t3
      have hR' := hR.congr (g := I64 (fnL T.L)) (fun t ht => by simp only [I64, IntRow]; rw [if_pos ht, hL])
      have HP := Lib.hid hP
      clear hR hg h t1 t2 t3 hP hd0 hL
      go_wp2_with fail
      go_ret3
      exact ⟨_, by rw [HP.out]; first | rfl | simp, by omega, Rd.of_row hR', hSr⟩

set_option maxRecDepth 100000 in
set_option maxHeartbeats 8000000 in
theorem si_places4 (A : Option Addr) (n c : Nat) (f : Nat → Int) (p : Nat) (B : Option Addr) (m d : Nat) (G : List Int) (w : World) (h : Rd w w.heap.size A n (U8 f)) (hf : ∀ j, j < n → 0 ≤ f j ∧ f j ≤ 255) (hg : Rd w w.heap.size B m (I64 (fnL G))) (hm : m = G.length) (hG : Bytes G) (hpn : p ≤ n) (hn : n ≤ 140737488355328) (hm4 : m ≤ 4096)
    (he : (plGo f n 4 32 G 0 p).e = 0) :
    Calls Try.prog 68 #[.slice A n c, .int .i64 p, .slice B m d, .int .i64 4, .int .i64 32] w fun e w' => ∃ b, e = .returned (.tuple #[.slice (some ⟨b, 0, none⟩) m m, .int .i64 (plGo f n 4 32 G 0 p).p, .int .i64 0]) ∧ w.heap.size ≤ b ∧ Rd w' w'.heap.size (some ⟨b, 0, none⟩) m (I64 (fnL (plGo f n 4 32 G 0 p).L)) ∧ Since w w' := by
  have b1 : 8 * m ≤ 281474976710656 := by omega
  have b2 : m ≤ maxLen := by simp only [maxLen]; omega
  have hm5 : (m : Int) ≤ 4096 := by omega
  obtain ⟨T, hT⟩ : ∃ T, T = plGo f n 4 32 G 0 p := ⟨_, rfl⟩
  have H0 := Lib.hid (show (plGo f n 4 32 (G.drop 0) 0 p).e = 0 ∧ T.L = [] ++ (plGo f n 4 32 (G.drop 0) 0 p).L ∧ T.p = (plGo f n 4 32 (G.drop 0) 0 p).p from ⟨he, by rw [hT]; rfl, by rw [hT]; rfl⟩)
  rw [← hT]
  have HG := Lib.hid hG
  have HM := Lib.hid hm
  have HF := Lib.hid hf
  clear he hT hG hm hf
  obtain ⟨i0, hi0, hz0, hz1, hz2⟩ := info_parts infoIn0
  go_enter Try.func68, Try.ntmps68
  go_wp2_with (at_make; refine wpList_make_tab _ (by rfl) _ _ _ (by rfl) 3 i0 .i64 8 Try.underlying72 hi0 hz0 hz1 hz2 .i64 .i64 m (by rfl) (by rfl) b1 b2 ?_; intro w1 hown1 hS1)
  go_loopw [1, 14, 25] (fun qv pv y wr => ∃ (j : Nat) (X : List Int) (v : Int) (q : Nat), j ≤ m ∧ X.length = j ∧ qv = .int .i64 (q : Int) ∧ pv = .int .i64 v ∧ y = .int .i64 (j : Int) ∧ q ≤ n ∧ (-32768 ≤ v ∧ v ≤ 32767) ∧ Since w wr ∧ Row wr w.heap.size m (I64 (fun t => if t < j then fnL X t else 0)) ∧ Hid ((plGo f n 4 32 (G.drop j) v q).e = 0 ∧ T.L = X ++ (plGo f n 4 32 (G.drop j) v q).L ∧ T.p = (plGo f n 4 32 (G.drop j) v q).p)) (fun _ _ y _ => m - (intOf y).toNat)
  case atStart => exact ⟨0, [], 0, p, by omega, rfl, rfl, rfl, rfl, hpn, by omega, hS1, (row_of_own hown1).congr (fun q hq => by simp only [I64, IntRow]; rw [if_neg (by omega)]), H0⟩
  case round =>
    obtain ⟨j, X, v, q, hj, hX, rfl, rfl, rfl, hq, hv, hSr, hR, hT⟩ := hrel
    by_cases hjm : j < m
    · have hjm' : (j : Int) < (m : Int) := by omega
      have hjG : j < G.length := by rw [← HM.out]; exact hjm
      have hcell := hR.1 j hjm
      have hfr := hR.2.1 j
      obtain ⟨t1, t2, t3⟩ := hT.out
      have hgr := HG.out (fnL G j) (List.mem_of_getElem? (fnL_get hjG))
      have hdrop : G.drop j = fnL G j :: G.drop (j + 1) := by
        rw [List.drop_eq_getElem_cons hjG]
        congr 1
        have := fnL_get hjG
        rw [List.getElem?_eq_getElem hjG] at this
        exact Option.some.inj this
      rw [hdrop] at t1 t2 t3
      obtain ⟨k1, k2, k3, k4, k5⟩ := pl_step t1
      obtain ⟨s, hs, hb1⟩ := and7_4 hgr.1 hgr.2
      obtain ⟨u, hu, hb2⟩ := and7_32 hgr.1 hgr.2
      have ew : sw7 4 32 (fnL G j) = swB s u := by rw [swB_is, hs, hu]
      have ev : sv7 f 4 32 (fnL G j) q = svB f s u q := by rw [svB_is, hs, hu]
      rw [ew] at k1 k3 k4 k5
      rw [ev] at k2 k3 k4 k5
      rw [k4] at t2
      rw [k5] at t3
      have hC := si_step A n c f q q s u wr (h.on hSr) HF.out rfl k1 hn
      have hFt := si_fits (v + svB f s u q)
      rw [decide_eq_true k2] at hFt
      obtain ⟨gb, go, rfl, gl, gc⟩ := hg.on hSr (by omega)
      have gcj := gc j hjm
      have hW : swB s u ≤ 2 := by unfold swB; split <;> (try split) <;> omega
      have k2' : -32768 ≤ v + svB f s u q ∧ v + svB f s u q ≤ 32767 := k2
      have hNx := Lib.hid (show (plGo f n 4 32 (G.drop (j + 1)) (v + svB f s u q) (q + swB s u)).e = 0 ∧ T.L = (X ++ [v + svB f s u q]) ++ (plGo f n 4 32 (G.drop (j + 1)) (v + svB f s u q) (q + swB s u)).L ∧ T.p = (plGo f n 4 32 (G.drop (j + 1)) (v + svB f s u q) (q + swB s u)).p from ⟨k3, by rw [t2, List.append_assoc]; rfl, t3⟩)
      clear t1 t2 t3 k3 k4 k5 k2 ew ev hs hu hdrop hT hgr
      have HGJ : ∃ gj, gj = fnL G j := ⟨_, rfl⟩
      obtain ⟨gj, hgj⟩ := HGJ
      rw [← hgj] at hb1 hb2
      have gcj' : wr.cell? ⟨gb, go + j, none⟩ = some (.int .i64 gj) := by rw [gcj, hgj]; rfl
      clear gcj hgj gc h hg
      obtain ⟨z, hz⟩ : ∃ z, z = svB f s u q := ⟨_, rfl⟩
      rw [← hz] at hC hFt hNx k2'
      obtain ⟨W, hWz⟩ : ∃ W, W = swB s u := ⟨_, rfl⟩
      rw [← hWz] at hC hNx hW k1
      clear hz hWz
      have hW0 : (W : Int) ≤ 2 := by omega
      have hqn : (q : Int) ≤ 140737488355328 := by omega
      cases s <;> cases u <;> simp only [if_true, if_false, Bool.false_eq_true] at hb1 hb2
      all_goals
        go_wp2_with (first | (go_at_call 71; (with_reducible refine hC.mono ?_); rintro e w2 ⟨rfl, rfl⟩) | (go_at_call 72; (with_reducible refine (hFt _).mono ?_); rintro e w2 ⟨rfl, rfl⟩))
        go_roundw
        case rel =>
          refine ⟨j + 1, X ++ [v + z], v + z, q + W, by omega, by rw [List.length_append, hX]; rfl, by first | rfl | go_num | simp, by first | rfl | go_num | simp, by first | rfl | go_num | simp, by omega, k2', by (repeat (first | with_reducible (exact Since.refl _) | with_reducible assumption | with_reducible (refine Since.drew ?_) | with_reducible (refine Since.drewN ?_ _) | with_reducible (refine Since.alloc ?_ _) | (with_reducible (refine Since.setCell ?_ ?_ _); rotate_left; focus (first | (simp; done) | (simp; omega) | omega)) | (with_reducible (refine Since.trans ?_ (by with_reducible assumption))))), (hR.set j _).congr (fun t ht => ?_), hNx⟩
          simp only [I64, IntRow]
          by_cases hq : t = j
          · subst hq
            rw [if_pos rfl, if_pos (by omega)]
            unfold fnL; rw [List.getD_eq_getElem?_getD, List.getElem?_append_right (by omega), hX, Nat.sub_self]; rfl
          · rw [if_neg hq]
            by_cases ht2 : t < j
            · rw [if_pos ht2, if_pos (by omega)]
              unfold fnL; rw [List.getD_eq_getElem?_getD, List.getD_eq_getElem?_getD, List.getElem?_append_left (by omega)]
            · rw [if_neg ht2, if_neg (by omega)]
        case measure => simp [intOf]; omega
    · obtain rfl : j = m := by omega
      obtain ⟨t1, t2, t3⟩ := hT.out
      have hd0 : G.drop j = [] := List.drop_eq_nil_of_le (by rw [← HM.out]; omega)
      rw [hd0] at t2 t3
      have hL : T.L = X := by rw [t2]; exact List.append_nil X
      have hP : T.p = q := t3
      have hR' := hR.congr (g := I64 (fnL T.L)) (fun t ht => by simp only [I64, IntRow]; rw [if_pos ht, hL])
      have HP := Lib.hid hP
      clear hR hg h t1 t2 t3 hP hd0 hL
      go_wp2_with fail
      go_ret3
      exact ⟨_, by rw [HP.out]; first | rfl | simp, by omega, Rd.of_row hR', hSr⟩

end Go.Proofs.Ytcjjcjpkmjbfkaa

/-
  Layer 7: readFlags, walked (a goto inside a loop's round).
-/
namespace Go.Proofs.Ytcjjcjpkmjbfkaa
open Go.RowKit Go.ChangeShapes Go.WideShapes Go.Deep
set_option linter.unusedVariables false
set_option linter.unusedSimpArgs false

theorem and7_8 {x : Int} (h0 : 0 ≤ x) (h1 : x ≤ 255) : bits .and .i64 x 8 = if Has8 x 8 then 8 else 0 := by
  have h := and_pow x 3 h0 (by omega) (by omega)
  simp only [Int.reducePow] at h
  rw [h]; unfold Has8; rfl
/-- What 'readFlags' leaves. -/
def FlPost7 (T : Fl7) (w : World) (e : Ending) (w' : World) : Prop := ∃ v, e = .returned (.tuple #[v, .int .i64 (T.p : Int), .int .i64 T.e]) ∧ OwnI w' w.heap.size v T.L ∧ Since w w'
theorem fl_no (f : Nat → Int) (n : Nat) : ∀ (k m p : Nat), (flGo f n k m p).e ≠ 0 → (flGo f n k m p).L = [] ∧ (flGo f n k m p).p = 0 := by
  intro k
  cases k with
  | zero => intro m p h; exact absurd rfl h
  | succ k =>
    intro m p h
    cases m with
    | zero => exact absurd rfl h
    | succ m =>
      rw [fl_cons] at h ⊢
      split at h
      · rw [if_pos (by assumption)]; exact ⟨rfl, rfl⟩
      · rw [if_neg (by assumption)]
        repeat' split
        all_goals first | exact ⟨rfl, rfl⟩ | skip
        all_goals simp_all
theorem flpost_no {f : Nat → Int} {n k m p : Nat} {T : Fl7} {w w' : World} {x : Int} (hT : T = flGo f n k m p) (he : T.e = x) (hx : x ≠ 0) (hS : Since w w') : FlPost7 T w (.returned (.tuple #[.slice none 0 0, .int .i64 0, .int .i64 x])) w' := by
  have h := fl_no f n k m p (by rw [← hT, he]; exact hx)
  rw [← hT] at h
  exact ⟨_, by rw [he, h.2]; rfl, by rw [h.1]; exact OwnG.nil _ _ _ _ _, hS⟩
def len7 (v : Value) : Nat := match v with
  | .slice _ n _ => n
  | _ => 0
def K7 (A : Option Addr) (n c : Nat) (x : Int) (m K : Nat) (g : Int) (L0 : List Int) (w0 : World) (a : Act) (w' : World) : Prop :=
  ∃ (k : Nat) (v : Value) (u6 u7 u8 u11 u15 u16 u17 u18 u19 u20 u21 u22 u23 u24 u25 u26 u27 u28 u29 u30 u31 u32 u33 u34 u35 u36 u37 u38 u39 u40 u41 u42 u43 u44 u45 u46 u47 u48 u49 u50 u51 u52 u53 u54 u55 u56 u57 u58 : Value), a = { tmps := #[.slice A n c, .int .i64 x, .int .i64 (m : Int), undef, undef, undef, u6, u7, u8, v, .int .i64 g, u11, .int .i64 (k : Int), .int .i64 (m : Int), .slice (some ⟨w0.heap.size, 0, none⟩) 0 m, u15, u16, u17, u18, u19, u20, u21, u22, u23, u24, u25, u26, u27, u28, u29, u30, u31, u32, u33, u34, u35, u36, u37, u38, u39, u40, u41, u42, u43, u44, u45, u46, u47, u48, u49, u50, u51, u52, u53, u54, u55, u56, u57, u58, undef, undef], defers := [] } ∧ OwnI w' w0.heap.size v (L0 ++ List.replicate (K - k) g) ∧ k < K ∧ Since w0 w'
def mu7 (a : Act) (_ : World) : Nat := (intOf (a.tmps.getD 12 undef)).toNat
theorem rep_more (L : List Int) (g : Int) (j : Nat) : (L ++ List.replicate j g) ++ [g] = L ++ List.replicate (j + 1) g := by
  rw [List.append_assoc, List.replicate_succ']
theorem k7_in {A : Option Addr} {n c m K k : Nat} {x : Int} {g : Int} {L0 M : List Int} {w0 w' : World} {v : Value} (hM : M = L0 ++ List.replicate (K - k) g) (hO : OwnI w' w0.heap.size v M) (hk : k < K) (hS : Since w0 w') (u6 u7 u8 u11 u15 u16 u17 u18 u19 u20 u21 u22 u23 u24 u25 u26 u27 u28 u29 u30 u31 u32 u33 u34 u35 u36 u37 u38 u39 u40 u41 u42 u43 u44 u45 u46 u47 u48 u49 u50 u51 u52 u53 u54 u55 u56 u57 u58 : Value) :
    K7 A n c x m K g L0 w0 { tmps := #[.slice A n c, .int .i64 x, .int .i64 (m : Int), undef, undef, undef, u6, u7, u8, v, .int .i64 g, u11, .int .i64 (k : Int), .int .i64 (m : Int), .slice (some ⟨w0.heap.size, 0, none⟩) 0 m, u15, u16, u17, u18, u19, u20, u21, u22, u23, u24, u25, u26, u27, u28, u29, u30, u31, u32, u33, u34, u35, u36, u37, u38, u39, u40, u41, u42, u43, u44, u45, u46, u47, u48, u49, u50, u51, u52, u53, u54, u55, u56, u57, u58, undef, undef], defers := [] } w' := by
  subst hM
  exact ⟨k, v, u6, u7, u8, u11, u15, u16, u17, u18, u19, u20, u21, u22, u23, u24, u25, u26, u27, u28, u29, u30, u31, u32, u33, u34, u35, u36, u37, u38, u39, u40, u41, u42, u43, u44, u45, u46, u47, u48, u49, u50, u51, u52, u53, u54, u55, u56, u57, u58, rfl, hO, hk, hS⟩
set_option maxRecDepth 100000 in
set_option maxHeartbeats 16000000 in
theorem si_flags (A : Option Addr) (n c : Nat) (f : Nat → Int) (p m : Nat) (w : World) (h : Rd w w.heap.size A n (U8 f)) (hf : ∀ j, j < n → 0 ≤ f j ∧ f j ≤ 255) (hpn : p ≤ n) (hn : n ≤ 140737488355328) (hm : m ≤ 4096) :
    Calls Try.prog 67 #[.slice A n c, .int .i64 p, .int .i64 m] w (FlPost7 (flGo f n m m p) w) := by
  have hm5 : (m : Int) ≤ 4096 := by omega
  obtain ⟨T, hT⟩ : ∃ T, T = flGo f n m m p := ⟨_, rfl⟩
  rw [← hT]
  have H0 := Lib.hid (show (flGo f n (m - 0) (m - 0) p).e = T.e ∧ (T.e = 0 → T.L = [] ++ (flGo f n (m - 0) (m - 0) p).L ∧ T.p = (flGo f n (m - 0) (m - 0) p).p) by rw [Nat.sub_zero, ← hT]; exact ⟨rfl, fun _ => ⟨rfl, rfl⟩⟩)
  have HT := Lib.hid hT
  have HF := Lib.hid hf
  clear hT hf
  obtain ⟨i0, hi0, hz0, hz1, hz2⟩ := info_parts infoIn0
  have b2 : i0.bytes * m ≤ 281474976710656 := by rw [hz2]; omega
  have b3 : m ≤ maxLen := by simp only [maxLen]; omega
  go_enter Try.func67, Try.ntmps67
  go_wp2_with (at_make; refine wpList_make_own _ (by rfl) _ _ _ (by rfl) w.heap.size 3 i0 _ 1 Try.underlying72 hi0 hz0 hz1 .i64 .i64 _ m (by rfl) (by rfl) rfl b2 b3 (Nat.le_refl _) ?_; intro w1 hown1 hgr1; have hS1 := since_grown (Since.refl w) hgr1 (fun k hk => by cases hk))
  have hO1 : OwnI w1 w.heap.size (.slice (some ⟨w.heap.size, 0, none⟩) 0 m) [] := hown1
  clear hgr1 hown1
  go_loopw [1, 9] (fun y v wr => ∃ (l : List Int) (q : Nat), l.length ≤ m ∧ y = .int .i64 (q : Int) ∧ OwnI wr w.heap.size v l ∧ q ≤ n ∧ Since w wr ∧ Hid ((flGo f n (m - l.length) (m - l.length) q).e = T.e ∧ (T.e = 0 → T.L = l ++ (flGo f n (m - l.length) (m - l.length) q).L ∧ T.p = (flGo f n (m - l.length) (m - l.length) q).p))) (fun _ v _ => m - len7 v)
  case atStart => exact ⟨[], p, by simp, rfl, hO1, hpn, hS1, H0⟩
  case round =>
    obtain ⟨l, q, hl, rfl, hO, hq, hSr, hR⟩ := hrel
    clear hO1 hS1
    obtain ⟨Av, cv, rfl, hcv, hrv⟩ := hO.rd (by omega) inL_len
    clear hrv
    obtain ⟨r1, r2⟩ := hR.out
    have hqi : (q : Int) ≤ 140737488355328 := by omega
    have hRD := h.on hSr
    by_cases hlm : l.length = m
    · have e0 : flGo f n (m - l.length) (m - l.length) q = ⟨0, [], q⟩ := by rw [hlm, Nat.sub_self]; rfl
      rw [e0] at r1 r2
      have HE := Lib.hid (show T.e = 0 from r1.symm)
      obtain ⟨r3, r4⟩ := r2 r1.symm
      rw [List.append_nil] at r3
      have HL := Lib.hid r3
      have HP := Lib.hid r4
      clear r1 r2 r3 r4 e0 hR
      have hlm' : (l.length : Int) = (m : Int) := by omega
      go_wp2_with fail
      go_ret3
      have hO' : OwnI wr w.heap.size (.slice Av m cv) l := by rw [← hlm]; exact hO
      exact ⟨_, by rw [HE.out, HP.out]; first | rfl | simp, by rw [HL.out]; exact hO', hSr⟩
    · have hlm' : (l.length : Int) < (m : Int) := by omega
      obtain ⟨k, hk⟩ : ∃ k, m - l.length = k + 1 := ⟨m - l.length - 1, by omega⟩
      rw [hk] at r1 r2
      have HR := Lib.hid r1
      have HR2 := Lib.hid r2
      clear r1 r2 hR
      rcases fl_step (f := f) (n := n) (m := k) (p := q) (fun j hj => (HF.out j hj).1) with ⟨s1, s2⟩ | ⟨s1, s2, s3, s4⟩ | ⟨s1, s2, s3, s4⟩ | ⟨s1, s2, s3, s4⟩ | ⟨j, s1, s2, s3, s4, s5, s6⟩
      · -- no flag is there
        have E := Lib.hid (show T.e = 3 by rw [← HR.out]; exact s2)
        have hC := u_out A n c f q 1 q 1 wr hRD HF.out rfl rfl (by omega) s1 (by omega) hn
        clear s2 hRD h
        go_wp2
        refine wp_scope_jumps 0 (fun _ _ => False) mu7 rfl ?_ ?_
        rotate_left
        · intro a w' hh; exact hh.elim
        go_wp2_with (go_at_call 55; (with_reducible refine hC.mono ?_); rintro e w2 ⟨rfl, rfl⟩)
        try simp only [Exit.jump]
        go_ret3
        exact flpost_no HT.out E.out (by omega) hSr
      · -- one flag, for one point
        have hr := HF.out q (by omega)
        have hC := u_in A n c f q 1 q 1 wr hRD HF.out rfl rfl (by omega) s1 hn
        rw [num_one] at hC
        have hb := and7_8 hr.1 hr.2
        rw [if_neg s2] at hb
        obtain ⟨g, hg⟩ : ∃ g, g = f q := ⟨_, rfl⟩
        have E := Lib.hid (show (flGo f n k k (q + 1)).e = T.e ∧ (T.e = 0 → T.L = (l ++ [g]) ++ (flGo f n k k (q + 1)).L ∧ T.p = (flGo f n k k (q + 1)).p) by
          refine ⟨by rw [← s3]; exact HR.out, fun h0 => ?_⟩
          obtain ⟨t1, t2⟩ := HR2.out h0
          obtain ⟨t3, t4⟩ := s4 (by rw [← s3, HR.out]; exact h0)
          exact ⟨by rw [t1, t3, List.append_assoc, hg]; rfl, by rw [t2, t4]⟩)
        rw [← hg] at hC hb
        have hl3 : l.length ≤ 3000000 := by omega
        have hq1 : IntKind.i64.wrap ((q : Int) + 1) = ((q + 1 : Nat) : Int) := by rw [IntKind.wrap_i64]; omega
        have hq2 : (Value.int IntKind.i64 ((q : Int) + 1)) = .int .i64 ((q + 1 : Nat) : Int) := by congr 1
        have HQ := Lib.hid hq2
        clear hq2
        have hl1 : ¬ (m : Int) < (l.length : Int) + 1 := by omega
        have hl1' : decide ((m : Int) < (l.length : Int) + 1 + 0) = false := by simp; omega
        have hKK := Lib.hid hk
        have hlen5 : (l ++ [g]).length ≤ m := by simp; omega
        have hlen6 : m - (l ++ [g]).length = k := by simp; omega
        clear s2 s3 s4 hr hg hRD h hk HR HR2
        go_wp2
        refine wp_scope_jumps 0 (fun _ _ => False) mu7 rfl ?_ ?_
        rotate_left
        · intro a w' hh; exact hh.elim
        go_wp2_with (first | (go_at_call 55; (with_reducible refine hC.mono ?_); rintro e w2 ⟨rfl, rfl⟩))
        go_step3
        go_wp2_with (first | (at_builtin; refine wpList_append_i rfl _ _ rfl _ hSr (.slice Av l.length cv) l rfl hO _ _ g rfl rfl hl3 ?_; intro v5 w5 hO5 hg5 hb5 hS5; obtain ⟨A5, c5, rfl, hc5, hr5⟩ := hO5.rd (by omega) inL_len; clear hg5 hb5 hr5))
        simp only [Exit.jump]
        have e6 : (l ++ [g]).length = l.length + 1 := by simp
        have hO6 := hO5
        rw [e6] at hO6
        go_roundw
        case measure => show m - (l.length + 1) < m - l.length; omega
        refine ⟨_, _, _, _, _, _, _, _, _, _, _, _, _, _, _, _, _, _, _, _, _, _, _, _, _, _, _, _, _, _, _, _, _, _, _, _, _, _, _, _, _, _, _, _, _, _, _, _, _, _, _, _, ⟨l ++ [g], q + 1, hlen5, HQ.out, hO6, s1, hS5, ?_⟩, rfl⟩
        rw [hlen6]
        exact E
      · -- the number of points lacks
        have hr := HF.out q (by omega)
        have hC := u_in A n c f q 1 q 1 wr hRD HF.out rfl rfl (by omega) s1 hn
        rw [num_one] at hC
        have hD := u_out A n c f (q + 1) 1 ((q : Int) + 1) 1 wr hRD HF.out (by omega) rfl (by omega) (by omega) (by omega) hn
        have hb := and7_8 hr.1 hr.2
        rw [if_pos s3] at hb
        obtain ⟨g, hg⟩ : ∃ g, g = f q := ⟨_, rfl⟩
        rw [← hg] at hC hb
        have hq1 : IntKind.i64.wrap ((q : Int) + 1) = (q : Int) + 1 := by rw [IntKind.wrap_i64]; omega
        have E := Lib.hid (show T.e = 3 by rw [← HR.out]; exact s4)
        clear s1 s2 s3 s4 hr hg hRD h hk HR HR2
        go_wp2
        refine wp_scope_jumps 0 (fun _ _ => False) mu7 rfl ?_ ?_
        rotate_left
        · intro a w' hh; exact hh.elim
        go_wp2_with (first | (go_at_call 55; first | ((with_reducible refine hC.mono ?_); rintro e w2 ⟨rfl, hw2⟩; have hw3 := hw2.symm; subst hw3; clear hw2) | ((with_reducible refine hD.mono ?_); rintro e w2 ⟨rfl, hw2⟩; have hw3 := hw2.symm; subst hw3; clear hw2)))
        try simp only [Exit.jump]
        go_ret3
        exact flpost_no HT.out E.out (by omega) hSr
      · -- more points than there are
        have hr := HF.out q (by omega)
        have hr1 := HF.out (q + 1) (by omega)
        have hC := u_in A n c f q 1 q 1 wr hRD HF.out rfl rfl (by omega) (by omega) hn
        rw [num_one] at hC
        have hD := u_in A n c f (q + 1) 1 ((q : Int) + 1) 1 wr hRD HF.out (by omega) rfl (by omega) (by omega) hn
        rw [num_one] at hD
        have hb := and7_8 hr.1 hr.2
        rw [if_pos s2] at hb
        obtain ⟨g, hg⟩ : ∃ g, g = f q := ⟨_, rfl⟩
        obtain ⟨x, hx⟩ : ∃ x, x = f (q + 1) := ⟨_, rfl⟩
        rw [← hg] at hC hb
        rw [← hx] at hD s3 hr1
        have hq1 : IntKind.i64.wrap ((q : Int) + 1) = (q : Int) + 1 := by rw [IntKind.wrap_i64]; omega
        have hq2 : IntKind.i64.wrap ((q : Int) + 1 + 1) = (q : Int) + 1 + 1 := by rw [IntKind.wrap_i64]; omega
        have hl1 : IntKind.i64.wrap ((l.length : Int) + 1 + x) = (l.length : Int) + 1 + x := by rw [IntKind.wrap_i64]; omega
        have hl2 : (m : Int) < (l.length : Int) + 1 + x := by omega
        have E := Lib.hid (show T.e = 4 by rw [← HR.out]; exact s4)
        clear s1 s2 s3 s4 hr hg hx hRD h hk HR HR2
        go_wp2
        refine wp_scope_jumps 0 (fun _ _ => False) mu7 rfl ?_ ?_
        rotate_left
        · intro a w' hh; exact hh.elim
        go_wp2_with (first | (go_at_call 55; first | ((with_reducible refine hC.mono ?_); rintro e w2 ⟨rfl, hw2⟩; have hw3 := hw2.symm; subst hw3; clear hw2) | ((with_reducible refine hD.mono ?_); rintro e w2 ⟨rfl, hw2⟩; have hw3 := hw2.symm; subst hw3; clear hw2)))
        try simp only [Exit.jump]
        go_ret3
        exact flpost_no HT.out E.out (by omega) hSr
      · -- one flag, for some points
        have hr := HF.out q (by omega)
        have hC := u_in A n c f q 1 q 1 wr hRD HF.out rfl rfl (by omega) (by omega) hn
        rw [num_one] at hC
        have hD := u_in A n c f (q + 1) 1 ((q : Int) + 1) 1 wr hRD HF.out (by omega) rfl (by omega) (by omega) hn
        rw [num_one, s3] at hD
        have hb := and7_8 hr.1 hr.2
        rw [if_pos s2] at hb
        obtain ⟨g, hg⟩ : ∃ g, g = f q := ⟨_, rfl⟩
        have E := Lib.hid (show (flGo f n (k - j) (k - j) (q + 2)).e = T.e ∧ (T.e = 0 → T.L = (l ++ List.replicate (j + 1) g) ++ (flGo f n (k - j) (k - j) (q + 2)).L ∧ T.p = (flGo f n (k - j) (k - j) (q + 2)).p) by
          refine ⟨by rw [← s5]; exact HR.out, fun h0 => ?_⟩
          obtain ⟨t1, t2⟩ := HR2.out h0
          obtain ⟨t3, t4⟩ := s6 (by rw [← s5, HR.out]; exact h0)
          exact ⟨by rw [t1, t3, List.append_assoc, hg], by rw [t2, t4]⟩)
        rw [← hg] at hC hb
        have hl3 : l.length ≤ 3000000 := by omega
        have hq1 : IntKind.i64.wrap ((q : Int) + 1) = (q : Int) + 1 := by rw [IntKind.wrap_i64]; omega
        have hq2 : IntKind.i64.wrap ((q : Int) + 1 + 1) = (q : Int) + 2 := by rw [IntKind.wrap_i64]; omega
        have HQ := Lib.hid (show (Value.int IntKind.i64 ((q : Int) + 2)) = .int .i64 ((q + 2 : Nat) : Int) from by congr 1)
        have hl1 : IntKind.i64.wrap ((l.length : Int) + 1 + (j : Int)) = (l.length : Int) + 1 + (j : Int) := by rw [IntKind.wrap_i64]; omega
        have hl2 : ¬ (m : Int) < (l.length : Int) + 1 + (j : Int) := by omega
        have hlj : l.length + j + 1 ≤ m := by omega
        have hlk : m - (l.length + (j + 1)) = k - j := by omega
        have hlen9 : ∀ i, (l ++ List.replicate i g).length = l.length + i := fun i => by simp
        have hm9 : m ≤ 4096 := hm
        have hjm : j ≤ 4096 := by omega
        clear s2 s3 s4 s5 s6 hr hg hRD h hk HR HR2
        go_wp2
        refine wp_scope_jumps 0 (K7 A n c ((q : Int) + 2) m j g l w) mu7 rfl ?_ ?_
        rotate_left
        · rintro a wp ⟨k', v, u6, u7, u8, u11, u15, u16, u17, u18, u19, u20, u21, u22, u23, u24, u25, u26, u27, u28, u29, u30, u31, u32, u33, u34, u35, u36, u37, u38, u39, u40, u41, u42, u43, u44, u45, u46, u47, u48, u49, u50, u51, u52, u53, u54, u55, u56, u57, u58, rfl, hOp, hkK, hSp⟩
          have hlp : (l ++ List.replicate (j - k') g).length ≤ 3000000 := by rw [hlen9]; omega
          have hkm : (k' : Int) ≤ 4096 := by omega
          clear hC hD hO hSr hb
          by_cases hk0 : 0 < k'
          · have hk0' : (0 : Int) < (k' : Int) := by omega
            have e9 : (l ++ List.replicate (j - k') g ++ [g]).length = l.length + (j - k' + 1) := by rw [List.length_append, hlen9]; rfl
            have hkx : IntKind.i64.wrap ((k' : Int) - 1) = ((k' - 1 : Nat) : Int) := by rw [IntKind.wrap_i64]; omega
            go_wp2_with (first | (at_builtin; refine wpList_append_i rfl _ _ rfl _ hSp v _ rfl hOp _ _ g rfl rfl hlp ?_; intro v5 w5 hO5 hg5 hb5 hS5; obtain ⟨A5, c5, rfl, hc5, hr5⟩ := hO5.rd (by omega) inL_len; clear hg5 hb5 hr5))
            go_step3
            rw [e9] at hO5
            exact ⟨rfl, k7_in (k := k' - 1) (by rw [rep_more, show j - k' + 1 = j - (k' - 1) by omega]) hO5 (by omega) hS5 _ _ _ _ _ _ _ _ _ _ _ _ _ _ _ _ _ _ _ _ _ _ _ _ _ _ _ _ _ _ _ _ _ _ _ _ _ _ _ _ _ _ _ _ _ _ _ _, by show (intOf (.int .i64 _)).toNat < (intOf (.int .i64 _)).toNat; simp [intOf]; omega⟩
          · obtain rfl : k' = 0 := by omega
            rw [Nat.sub_zero] at hlp
            have hOq : OwnI wp w.heap.size v (l ++ List.replicate j g) := hOp
            clear hOp
            go_wp2_with (first | (at_builtin; refine wpList_append_i rfl _ _ rfl _ hSp v _ rfl hOq _ _ g rfl rfl hlp ?_; intro v5 w5 hO5 hg5 hb5 hS5; obtain ⟨A5, c5, rfl, hc5, hr5⟩ := hO5.rd (by omega) inL_len; clear hg5 hb5 hr5))
            simp only [Exit.jump]
            have e7 : (l ++ List.replicate j g ++ [g]).length = l.length + (j + 1) := by rw [rep_more, hlen9 (j + 1)]
            have hO6 := hO5
            rw [e7, rep_more] at hO6
            have e8 : (l ++ List.replicate j g).length = l.length + j := hlen9 j
            go_roundw
            case measure => show m - (l.length + (j + 1)) < m - l.length; omega
            refine ⟨_, _, _, _, _, _, _, _, _, _, _, _, _, _, _, _, _, _, _, _, _, _, _, _, _, _, _, _, _, _, _, _, _, _, _, _, _, _, _, _, _, _, _, _, _, _, _, _, _, _, _, _, ⟨l ++ List.replicate (j + 1) g, q + 2, by rw [hlen9]; omega, HQ.out, ?_, s1, hS5, ?_⟩, rfl⟩
            · exact hO6
            · rw [hlen9, hlk]; exact E
        · go_wp2_with (first | (go_at_call 55; first | ((with_reducible refine hC.mono ?_); rintro e w2 ⟨rfl, hw2⟩; have hw3 := hw2.symm; subst hw3; clear hw2) | ((with_reducible refine hD.mono ?_); rintro e w2 ⟨rfl, hw2⟩; have hw3 := hw2.symm; subst hw3; clear hw2)))
          go_step3
          clear hC hD
          have e6 : (l ++ [g]).length = l.length + 1 := by simp
          by_cases hj0 : 0 < j
          · have hj0' : (0 : Int) < (j : Int) := by omega
            have hjx : IntKind.i64.wrap ((j : Int) - 1) = ((j - 1 : Nat) : Int) := by rw [IntKind.wrap_i64]; omega
            go_wp2_with (first | (at_builtin; refine wpList_append_i rfl _ _ rfl _ hSr (.slice Av l.length cv) l rfl hO _ _ g rfl rfl hl3 ?_; intro v5 w5 hO5 hg5 hb5 hS5; obtain ⟨A5, c5, rfl, hc5, hr5⟩ := hO5.rd (by omega) inL_len; clear hg5 hb5 hr5))
            go_step3
            rw [e6] at hO5
            exact ⟨rfl, k7_in (k := j - 1) (by rw [show j - (j - 1) = 1 by omega]; rfl) hO5 (by omega) hS5 _ _ _ _ _ _ _ _ _ _ _ _ _ _ _ _ _ _ _ _ _ _ _ _ _ _ _ _ _ _ _ _ _ _ _ _ _ _ _ _ _ _ _ _ _ _ _ _⟩
          · obtain rfl : j = 0 := by omega
            go_wp2_with (first | (at_builtin; refine wpList_append_i rfl _ _ rfl _ hSr (.slice Av l.length cv) l rfl hO _ _ g rfl rfl hl3 ?_; intro v5 w5 hO5 hg5 hb5 hS5; obtain ⟨A5, c5, rfl, hc5, hr5⟩ := hO5.rd (by omega) inL_len; clear hg5 hb5 hr5))
            simp only [Exit.jump]
            have hO6 := hO5
            rw [e6] at hO6
            go_roundw
            case measure => show m - (l.length + 1) < m - l.length; omega
            refine ⟨_, _, _, _, _, _, _, _, _, _, _, _, _, _, _, _, _, _, _, _, _, _, _, _, _, _, _, _, _, _, _, _, _, _, _, _, _, _, _, _, _, _, _, _, _, _, _, _, _, _, _, _, ⟨l ++ [g], q + 2, by rw [e6]; omega, HQ.out, hO6, s1, hS5, ?_⟩, rfl⟩
            rw [e6, hlk]; exact E
end Go.Proofs.Ytcjjcjpkmjbfkaa

/-
  Layer 7: readEnds, walked.
-/
namespace Go.Proofs.Ytcjjcjpkmjbfkaa
open Go.RowKit Go.ChangeShapes Go.WideShapes Go.Deep
set_option linter.unusedVariables false
set_option linter.unusedSimpArgs false

/-- Why contours' last points can't be read. -/
def endsE (f : Nat → Int) (n k : Nat) : Int :=
  if n < 10 + 2 * k then 3 else if ∃ i, i < k ∧ 0 < i ∧ en7 f i ≤ en7 f (i - 1) then 12 else if 4096 ≤ en7 f (k - 1) then 7 else 0
theorem rdA7_e {f : Nat → Int} {n k : Nat} (h : endsE f n k ≠ 0) : rdA7 f n k = no7 (endsE f n k) := by
  unfold endsE at h ⊢
  unfold rdA7
  by_cases h1 : n < 10 + 2 * k
  · rw [if_pos h1, if_pos h1]
  · rw [if_neg h1] at h ⊢
    rw [if_neg h1]
    by_cases h2 : ∃ i, i < k ∧ 0 < i ∧ en7 f i ≤ en7 f (i - 1)
    · rw [if_pos h2, if_pos h2]
    · rw [if_neg h2] at h ⊢
      rw [if_neg h2]
      by_cases h3 : 4096 ≤ en7 f (k - 1)
      · rw [if_pos h3, if_pos h3]
      · rw [if_neg h3] at h; exact absurd rfl h
theorem rdA7_o {f : Nat → Int} {n k : Nat} (h : endsE f n k = 0) : rdA7 f n k = rdB7 f n k (en7 f (k - 1) + 1).toNat ∧ 10 + 2 * k ≤ n ∧ (∀ i, i < k → 0 < i → en7 f (i - 1) < en7 f i) ∧ en7 f (k - 1) < 4096 := by
  unfold endsE at h
  unfold rdA7
  by_cases h1 : n < 10 + 2 * k
  · rw [if_pos h1] at h; cases h
  · rw [if_neg h1] at h
    rw [if_neg h1]
    by_cases h2 : ∃ i, i < k ∧ 0 < i ∧ en7 f i ≤ en7 f (i - 1)
    · rw [if_pos h2] at h; cases h
    · rw [if_neg h2] at h
      rw [if_neg h2]
      by_cases h3 : 4096 ≤ en7 f (k - 1)
      · rw [if_pos h3] at h; cases h
      · rw [if_neg h3]
        refine ⟨rfl, by omega, fun i h4 h5 => ?_, by omega⟩
        rcases Int.lt_or_le (en7 f (i - 1)) (en7 f i) with h6 | h6
        · exact h6
        · exact absurd ⟨i, h4, h5, h6⟩ h2
def EndsPost (f : Nat → Int) (n k : Nat) (w : World) (e : Ending) (w' : World) : Prop :=
  Since w w' ∧ ((endsE f n k ≠ 0 ∧ e = .returned (.tuple #[.slice none 0 0, .int .i64 (endsE f n k)])) ∨ (endsE f n k = 0 ∧ ∃ b, e = .returned (.tuple #[.slice (some ⟨b, 0, none⟩) k k, .int .i64 0]) ∧ w.heap.size ≤ b ∧ Rd w' w'.heap.size (some ⟨b, 0, none⟩) k (I64 (en7 f))))
theorem endspost_no {f : Nat → Int} {n k : Nat} {w w' : World} {x : Int} (hx : endsE f n k = x) (h0 : x ≠ 0) (hS : Since w w') : EndsPost f n k w (.returned (.tuple #[.slice none 0 0, .int .i64 x])) w' := by
  subst hx
  exact ⟨hS, .inl ⟨h0, rfl⟩⟩
set_option maxRecDepth 100000 in
set_option maxHeartbeats 8000000 in
theorem si_ends (A : Option Addr) (n c : Nat) (f : Nat → Int) (k : Nat) (w : World) (h : Rd w w.heap.size A n (U8 f)) (hf : ∀ j, j < n → 0 ≤ f j ∧ f j ≤ 255) (hn : n ≤ 140737488355328) (hk0 : 1 ≤ k) (hk : k ≤ 32767) :
    Calls Try.prog 54 #[.slice A n c, .int .i64 (k : Int)] w (EndsPost f n k w) := by
  have hkI : (k : Int) ≤ 32767 := by omega
  have hkI1 : (1 : Int) ≤ k := by omega
  have hnI : (n : Int) ≤ 140737488355328 := by omega
  have m1 : IntKind.i64.wrap (2 * (k : Int)) = 2 * (k : Int) := by rw [IntKind.wrap_i64]; omega
  have m2 : IntKind.i64.wrap (10 + 2 * (k : Int)) = 10 + 2 * (k : Int) := by rw [IntKind.wrap_i64]; omega
  by_cases h1 : n < 10 + 2 * k
  · have d1 : (n : Int) < 10 + 2 * (k : Int) := by omega
    have E := Lib.hid (show endsE f n k = 3 by unfold endsE; rw [if_pos h1])
    clear h h1
    go_enter Try.func54, Try.ntmps54
    go_wp2_with fail
    go_ret2
    exact endspost_no E.out (by omega) (by (repeat (first | with_reducible (exact Since.refl _) | with_reducible assumption | with_reducible (refine Since.drew ?_) | with_reducible (refine Since.drewN ?_ _) | with_reducible (refine Since.alloc ?_ _) | (with_reducible (refine Since.setCell ?_ ?_ _); rotate_left; focus (first | (simp; done) | (simp; omega) | omega)) | (with_reducible (refine Since.trans ?_ (by with_reducible assumption))))))
  · have d1 : ¬ (n : Int) < 10 + 2 * (k : Int) := by omega
    have hrange : ∀ i, i < k → 0 ≤ en7 f i ∧ en7 f i ≤ 65535 := fun i hi => by
      have := numAt_range (f := f) (p := 10 + 2 * i) (k := 2) (fun j hj => hf j (by omega))
      unfold en7; simp only [Int.reducePow] at this; omega
    have HR := Lib.hid hrange
    have HF := Lib.hid hf
    have E0 := Lib.hid (show endsE f n k = if ∃ i, i < k ∧ 0 < i ∧ en7 f i ≤ en7 f (i - 1) then 12 else if 4096 ≤ en7 f (k - 1) then 7 else 0 by unfold endsE; rw [if_neg h1])
    have b1 : 8 * k ≤ 281474976710656 := by omega
    have b2 : k ≤ maxLen := by simp only [maxLen]; omega
    have hfit : 10 + 2 * k ≤ n := by omega
    clear hf hrange h1
    obtain ⟨i0, hi0, hz0, hz1, hz2⟩ := info_parts infoIn0
    go_enter Try.func54, Try.ntmps54
    go_wp2_with (at_make; refine wpList_make_tab _ (by rfl) _ _ _ (by rfl) 3 i0 .i64 8 Try.underlying72 hi0 hz0 hz1 hz2 .i64 .i64 k (by rfl) (by rfl) b1 b2 ?_; intro w1 hown1 hS1)
    obtain ⟨g, hg⟩ : ∃ g, g = w.heap.size := ⟨_, rfl⟩
    rw [← hg] at hown1 ⊢
    have hgw : w.heap.size ≤ g := by omega
    go_loopw [19] (fun y wr => ∃ (j : Nat), j ≤ k ∧ y = .int .i64 (j : Int) ∧ Since w wr ∧ Row wr g k (I64 (fun t => if t < j then en7 f t else 0))) (fun y _ => k - (intOf y).toNat)
    case atStart => exact ⟨0, by omega, rfl, hS1, (row_of_own hown1).congr (fun q hq => by simp only [I64, IntRow]; rw [if_neg (by omega)])⟩
    case round =>
      obtain ⟨j, hj, rfl, hSr, hR⟩ := hrel
      clear hown1 hS1 hg
      by_cases hjk : j < k
      · have hjk' : (j : Int) < (k : Int) := by omega
        have hcell := hR.1 j hjk
        have hfr := hR.2.1 j
        have hgz := hR.2.2
        have m3 : IntKind.i64.wrap (2 * (j : Int)) = 2 * (j : Int) := by rw [IntKind.wrap_i64]; omega
        have m4 : IntKind.i64.wrap (10 + 2 * (j : Int)) = 10 + 2 * (j : Int) := by rw [IntKind.wrap_i64]; omega
        have hC := u_in A n c f (10 + 2 * j) 2 (10 + 2 * (j : Int)) 2 wr (h.on hSr) HF.out (by omega) rfl (by omega) (by omega) hn
        have he : numAt f (10 + 2 * j) 2 = en7 f j := rfl
        rw [he] at hC
        obtain ⟨x, hx⟩ : ∃ x, x = en7 f j := ⟨_, rfl⟩
        rw [← hx] at hC
        have HX := Lib.hid hx
        clear h hx he
        go_wp2_with (go_at_call 55; (with_reducible refine hC.mono ?_); rintro e w2 ⟨rfl, hw2⟩; have hw3 := hw2.symm; subst hw3; clear hw2)
        go_roundw
        case rel =>
          refine ⟨j + 1, by omega, by first | rfl | go_num, by (repeat (first | with_reducible (exact Since.refl _) | with_reducible assumption | with_reducible (refine Since.drew ?_) | with_reducible (refine Since.drewN ?_ _) | with_reducible (refine Since.alloc ?_ _) | (with_reducible (refine Since.setCell ?_ ?_ _); rotate_left; focus (first | (simp; done) | (simp; omega) | omega)) | (with_reducible (refine Since.trans ?_ (by with_reducible assumption))))), (hR.set j _).congr (fun t ht => ?_)⟩
          simp only [I64, IntRow]
          by_cases hq : t = j
          · subst hq
            rw [if_pos rfl, if_pos (by omega), HX.out]
          · rw [if_neg hq]
            by_cases ht2 : t < j
            · rw [if_pos ht2, if_pos (by omega)]
            · rw [if_neg ht2, if_neg (by omega)]
        case measure => simp [intOf]; omega
      · obtain rfl : j = k := by omega
        have hR' := hR.congr (g := I64 (en7 f)) (fun t ht => by simp only [I64, IntRow]; rw [if_pos ht])
        have hgz := hR.2.2
        clear hR h
        go_wp2_with fail
        go_loopw [8] (fun y wq => ∃ (i : Nat), 1 ≤ i ∧ i ≤ j ∧ y = .int .i64 (i : Int) ∧ Since wr wq ∧ Hid (∀ t, t < i → 0 < t → en7 f (t - 1) < en7 f t)) (fun y _ => j - (intOf y).toNat)
        case atStart => exact ⟨1, by omega, by omega, rfl, Since.refl _, Lib.hid (fun t h1 h2 => absurd h1 (by omega))⟩
        case round =>
          obtain ⟨i, hi1, hij, rfl, hSq, HO⟩ := hrel
          have hRq := hR'.since hSq
          have hgq := hSq.2.2.1 _ hgz
          by_cases hin : i < j
          · have hin' : (i : Int) < (j : Int) := by omega
            have c1 := hRq.1 i hin
            have c2 := hRq.1 (i - 1) (by omega)
            have m5 : IntKind.i64.wrap ((i : Int) - 1) = ((i - 1 : Nat) : Int) := by rw [IntKind.wrap_i64]; omega
            have hi1' : i - 1 < j := by omega
            simp only [I64, IntRow] at c1 c2
            by_cases hle : en7 f i ≤ en7 f (i - 1)
            · have E := Lib.hid (show endsE f n j = 12 by rw [E0.out, if_pos ⟨i, hin, by omega, hle⟩])
              generalize en7 f i = x at *
              generalize en7 f (i - 1) = y at *
              have hd : decide (x ≤ y) = true := by simpa using hle
              clear hR' hRq
              go_wp2_with fail
              go_region
              all_goals go_wp2_with fail
              all_goals go_ret2
              all_goals exact endspost_no E.out (by omega) (by have hX := hSr.trans hSq; (repeat (first | with_reducible (exact Since.refl _) | with_reducible assumption | with_reducible (refine Since.drew ?_) | with_reducible (refine Since.drewN ?_ _) | with_reducible (refine Since.alloc ?_ _) | (with_reducible (refine Since.setCell ?_ ?_ _); rotate_left; focus (first | (simp; done) | (simp; omega) | omega)) | (with_reducible (refine Since.trans ?_ (by with_reducible assumption))))))
            · have HO2 := Lib.hid (show ∀ t, t < i + 1 → 0 < t → en7 f (t - 1) < en7 f t from fun t h1 h2 => by
                by_cases e : t = i
                · subst e; omega
                · exact HO.out t (by omega) h2)
              generalize en7 f i = x at *
              generalize en7 f (i - 1) = y at *
              have hd : decide (x ≤ y) = false := by simpa using hle
              clear hR' hRq
              go_wp2_with fail
              go_region
              all_goals go_wp2_with fail
              all_goals go_roundw
              all_goals first | (simp [intOf]; omega) | exact ⟨i + 1, by omega, by omega, by first | rfl | go_num, by (repeat (first | with_reducible (exact Since.refl _) | with_reducible assumption | with_reducible (refine Since.drew ?_) | with_reducible (refine Since.drewN ?_ _) | with_reducible (refine Since.alloc ?_ _) | (with_reducible (refine Since.setCell ?_ ?_ _); rotate_left; focus (first | (simp; done) | (simp; omega) | omega)) | (with_reducible (refine Since.trans ?_ (by with_reducible assumption))))), HO2⟩
          · obtain rfl : i = j := by omega
            have c1 := hRq.1 (i - 1) (by omega)
            have m5 : IntKind.i64.wrap ((i : Int) - 1) = ((i - 1 : Nat) : Int) := by rw [IntKind.wrap_i64]; omega
            have hi1' : i - 1 < i := by omega
            simp only [I64, IntRow] at c1
            have hno : ¬ ∃ t, t < i ∧ 0 < t ∧ en7 f t ≤ en7 f (t - 1) := fun ⟨t, h1, h2, h3⟩ => by have := HO.out t h1 h2; omega
            by_cases h7 : 4096 ≤ en7 f (i - 1)
            · have E := Lib.hid (show endsE f n i = 7 by rw [E0.out, if_neg hno, if_pos h7])
              generalize en7 f (i - 1) = y at *
              have hd : decide (4096 ≤ y) = true := by simpa using h7
              clear hno hR'
              go_wp2_with fail
              go_ret2
              exact endspost_no E.out (by omega) (hSr.trans hSq)
            · have E := Lib.hid (show endsE f n i = 0 by rw [E0.out, if_neg hno, if_neg h7])
              generalize en7 f (i - 1) = y at *
              have hd : decide (4096 ≤ y) = false := by simpa using h7
              clear hno hR'
              go_wp2_with fail
              go_ret2
              exact ⟨hSr.trans hSq, .inr ⟨E.out, g, by first | rfl | simp, hgw, Rd.of_row hRq⟩⟩
end Go.Proofs.Ytcjjcjpkmjbfkaa

/-
  Knots: as they read (by functions and as lists), and rows of them that a call has made.
-/
namespace Go.Proofs.Ytcjjcjpkmjbfkaa
open Go.RowKit Go.ChangeShapes Go.WideShapes Go.Deep
set_option linter.unusedVariables false

/-- A knot. -/
structure Kt where
  (x y : Int) (o : Bool)
def kAt (X Y : Nat → Int) (O : Nat → Bool) (j : Nat) : Kt := ⟨X j, Y j, O j⟩
/-- A slice's n knots, in a block below B (nil and empty let in). -/
def RdK (w : World) (B : Nat) (A : Option Addr) (n : Nat) (X Y : Nat → Int) (O : Nat → Bool) : Prop :=
  0 < n → ∃ b o, A = some ⟨b, o, none⟩ ∧ b < B ∧ ∀ j, j < n → w.cell? ⟨b, o + j * 3, none⟩ = some (.int .i64 (X j)) ∧ w.cell? ⟨b, o + j * 3 + 1, none⟩ = some (.int .i64 (Y j)) ∧ w.cell? ⟨b, o + j * 3 + 2, none⟩ = some (.bool (O j))
section
variable {w w' : World} {B B' n : Nat} {A : Option Addr} {X Y : Nat → Int} {O : Nat → Bool}
theorem RdK.zero : RdK w B A 0 X Y O := fun h => absurd h (by omega)
theorem RdK.keep (h : RdK w B A n X Y O) (hk : ∀ b o, b < B → w'.cell? ⟨b, o, none⟩ = w.cell? ⟨b, o, none⟩) : RdK w' B A n X Y O := fun hn => by
  obtain ⟨b, o, rfl, hb, hc⟩ := h hn
  exact ⟨b, o, rfl, hb, fun j hj => ⟨(hk _ _ hb).trans (hc j hj).1, (hk _ _ hb).trans (hc j hj).2.1, (hk _ _ hb).trans (hc j hj).2.2⟩⟩
theorem RdK.more (h : RdK w B A n X Y O) (hB : B ≤ B') : RdK w B' A n X Y O := fun hn => by
  obtain ⟨b, o, rfl, hb, hc⟩ := h hn
  exact ⟨b, o, rfl, by omega, hc⟩
theorem RdK.on (h : RdK w w.heap.size A n X Y O) (k : Since w w') : RdK w' w'.heap.size A n X Y O := (h.keep fun b o hb => k.1 b o hb).more k.below.size
end
def knL (k : Kt) : List Value := [.int .i64 k.x, .int .i64 k.y, .bool k.o]
theorem knL_len (k : Kt) : (knL k).length = 3 := rfl
theorem knL_one (k : Kt) : ∀ u ∈ knL k, u.oneCell' = true := by
  intro u hu
  simp only [knL, List.mem_cons, List.not_mem_nil, or_false] at hu
  rcases hu with rfl | rfl | rfl <;> rfl
theorem infoKn0 : (Try.prog.info? 62).map (fun i => (i.zero, i.size, i.bytes)) = some (some (.agg #[.int .i64 0, .int .i64 0, .bool false]), 3, 24) := by kernel_rfl
theorem infoKn : ∃ i z, Try.prog.info? 62 = some i ∧ i.zero = some z ∧ i.size = 3 ∧ i.bytes = 24 ∧ z.cells.size = 3 := by
  obtain ⟨i0, hi, hz0, hz1, hz2⟩ := info_parts infoKn0
  exact ⟨i0, _, hi, hz0, hz1, hz2, rfl⟩
abbrev OwnK (w : World) (base : Nat) (v : Value) (L : List Kt) : Prop := OwnG 62 3 knL w base v L
abbrev RdKl (w : World) (B : Nat) (A : Option Addr) (L : List Kt) : Prop := RdG 3 knL w B A L
theorem kn_one (w : World) (b : Nat) (hb : b = w.heap.size) (ty : TypeId) (k : Kt) : RdKl (w.alloc (.cells #[.int .i64 k.x, .int .i64 k.y, .bool k.o] ty)) (w.alloc (.cells #[.int .i64 k.x, .int .i64 k.y, .bool k.o] ty)).heap.size (some ⟨b, 0, none⟩) [k] :=
  rdG_one hb k (fun i hi => by
    have h : i = 0 ∨ i = 1 ∨ i = 2 := by omega
    rcases h with rfl | rfl | rfl <;> rfl)
/-- append of one knot, just built. -/
theorem wpList_append_kn {w : World} {ops : Array Oper} {rest : List Oper} {o : Oper} {a : Act} {Q : Exit → Act → World → Prop} (hgd : o.guard = none) (s x : Operand)
    (ho : o.op = .call { callee := .builtin .append, args := #[s, x], argTypes := #[63, 63] })
    (base : Nat) (v : Value) (L : List Kt) (hs : a.eval s = v) (hown : OwnK w base v L) (B b c : Nat) (p : Kt) (hx : a.eval x = .slice (some ⟨b, 0, none⟩) 1 c) (hp : RdKl w B (some ⟨b, 0, none⟩) [p]) (hL : L.length ≤ 3000000) (hbase : base ≤ w.heap.size)
    (h : ∀ v' w', OwnK w' base v' (L ++ [p]) → w.grownBy w' v.ownBlock → (∀ q, v.ownBlock = some q → base ≤ q ∧ q < w.heap.size) → wpList Try.prog ops Q rest (a.put o.dst v') w') :
    wpList Try.prog ops Q (o :: rest) a w :=
  wpList_append_g hgd s x 63 62 ho (by omega) knL_len knL_one 24 Try.underlying63 infoKn base v L hs hown B _ c [p] hx hp (by simp only [List.length_cons, List.length_nil]; omega) (by simp only [List.length_cons, List.length_nil, maxLen]; omega) hbase h
def ktL (n : Nat) (X Y : Nat → Int) (O : Nat → Bool) : List Kt := (List.range n).map (kAt X Y O)
theorem ktL_len (n : Nat) (X Y : Nat → Int) (O : Nat → Bool) : (ktL n X Y O).length = n := by simp [ktL]
theorem ktL_get {n : Nat} {X Y : Nat → Int} {O : Nat → Bool} {j : Nat} (hj : j < n) : (ktL n X Y O)[j]? = some (kAt X Y O j) := by simp [ktL, hj]
theorem RdK.list {w : World} {B : Nat} {A : Option Addr} {n : Nat} {X Y : Nat → Int} {O : Nat → Bool} (h : RdK w B A n X Y O) : RdKl w B A (ktL n X Y O) := fun hn => by
  rw [ktL_len] at hn
  obtain ⟨b, o, rfl, hb, hc⟩ := h hn
  refine ⟨b, o, rfl, hb, fun j s hj i hi => ?_⟩
  have hjn : j < n := by
    rcases Nat.lt_or_ge j n with h | h
    · exact h
    · rw [List.getElem?_eq_none (by rw [ktL_len]; exact h)] at hj; cases hj
  rw [ktL_get hjn] at hj
  injection hj with hj
  subst hj
  obtain ⟨h1, h2, h3⟩ := hc j hjn
  have hh : i = 0 ∨ i = 1 ∨ i = 2 := by omega
  rcases hh with rfl | rfl | rfl <;> assumption
theorem RdK.of_list {w : World} {B : Nat} {A : Option Addr} {n : Nat} {X Y : Nat → Int} {O : Nat → Bool} (h : RdKl w B A (ktL n X Y O)) : RdK w B A n X Y O := fun hn => by
  obtain ⟨b, o, rfl, hb, hc⟩ := h (by rw [ktL_len]; exact hn)
  exact ⟨b, o, rfl, hb, fun j hj => ⟨hc j _ (ktL_get hj) 0 (by omega), hc j _ (ktL_get hj) 1 (by omega), hc j _ (ktL_get hj) 2 (by omega)⟩⟩
end Go.Proofs.Ytcjjcjpkmjbfkaa

/-
  Outlines in memory: slices of slices of knots; the reference's 'Same' of two that read alike.
-/
namespace Go.Proofs.Ytcjjcjpkmjbfkaa
open Go.RowKit Go.ChangeShapes Go.WideShapes Go.Deep
set_option linter.unusedVariables false

theorem eq_knots (w : World) (a0 a1 b0 b1 : Int) (ak bk : Bool) : (Op.equalIn 10000 62 (.agg #[.int .i64 a0, .int .i64 a1, .bool ak]) (.agg #[.int .i64 b0, .int .i64 b1, .bool bk])).run Try.prog w = .ok ((a0 == b0 && a1 == b1) && ak == bk) w := by
  rw [run_equalIn_struct w 9999 62 _ _ (by kernel_rfl) (by kernel_rfl)]
  have heq : ∀ (d : Nat) (a b : Int) (w : World), (Op.equalIn (d + 1) 3 (.int .i64 a) (.int .i64 b)).run Try.prog w = .ok (a == b) w := fun d a b w => run_equalIn_int w d _ _ _ a b Try.underlying3
  have hc : Try.prog.cellsOf 3 = 1 := by kernel_rfl
  have hcb : Try.prog.cellsOf 4 = 1 := by kernel_rfl
  have heqb : ∀ (d : Nat) (a b : Bool) (w : World), (Op.equalIn (d + 1) 4 (.bool a) (.bool b)).run Try.prog w = .ok (a == b) w := fun d a b w => by simp [Op.equalIn, run_underlying Try.underlying4]
  simp only [Program.fieldsOf, Try.underlying62]
  by_cases h1 : a0 = b0 <;> by_cases h2 : a1 = b1 <;> by_cases h3 : ak = bk <;> simp [go_sem, heqb, h1, h2, h3]
/-- A slice's rows, each of knots. -/
structure OutD where
  n : Nat
  A : Nat → Option Addr
  N : Nat → Nat
  C : Nat → Nat
  X : Nat → Nat → Int
  Y : Nat → Nat → Int
  O : Nat → Nat → Bool
def OutD.hd (D : OutD) (j : Nat) : Value := .slice (D.A j) (D.N j) (D.C j)
/-- An outline that reads as D, in blocks below B. -/
def RdO (w : World) (B : Nat) (A : Option Addr) (D : OutD) : Prop := Rd w B A D.n D.hd ∧ (∀ j, j < D.n → RdK w B (D.A j) (D.N j) (D.X j) (D.Y j) (D.O j)) ∧ ∀ j, j < D.n → D.N j ≤ maxLen
theorem RdO.keep {w w' : World} {B : Nat} {A : Option Addr} {D : OutD} (h : RdO w B A D) (hk : ∀ b o, b < B → w'.cell? ⟨b, o, none⟩ = w.cell? ⟨b, o, none⟩) : RdO w' B A D := ⟨h.1.keep hk, fun j hj => (h.2.1 j hj).keep hk, h.2.2⟩
theorem RdO.more {w : World} {B B' : Nat} {A : Option Addr} {D : OutD} (h : RdO w B A D) (hB : B ≤ B') : RdO w B' A D := ⟨h.1.more hB, fun j hj => (h.2.1 j hj).more hB, h.2.2⟩
theorem RdO.on {w w' : World} {A : Option Addr} {D : OutD} (h : RdO w w.heap.size A D) (k : Since w w') : RdO w' w'.heap.size A D := (h.keep fun b o hb => k.1 b o hb).more k.below.size
/-- Two outlines that read alike. -/
def LikeO (D D' : OutD) : Prop := D'.n = D.n ∧ ∀ j, j < D.n → D'.N j = D.N j ∧ ∀ i, i < D.N j → D'.X j i = D.X j i ∧ D'.Y j i = D.Y j i ∧ D'.O j i = D.O j i
set_option maxRecDepth 100000 in
set_option maxHeartbeats 8000000 in
theorem rf_same7 (A A' : Option Addr) (c c' : Nat) (D D' : OutD) (w : World) (h : RdO w w.heap.size A D) (h' : RdO w w.heap.size A' D') (hl : LikeO D D') (hn : D.n ≤ maxLen) :
    Calls Try.prog 12 #[.slice A D.n c, .slice A' D'.n c'] w fun e w' => e = .returned (.bool true) ∧ Since w w' := by
  obtain ⟨hl0, hl⟩ := hl
  rw [hl0]
  obtain ⟨hR, hK, hM⟩ := h
  obtain ⟨hR', hK', _⟩ := h'
  unfold OutD.hd at hR hR'
  generalize hnn : D.n = n at *
  rw [hl0] at hR' hK'
  clear hl0 hnn
  have hn' : (n : Int) ≤ 9223372036854775807 := by simp only [maxLen] at hn; omega
  have heq := eq_knots
  go_enter Try.func12, Try.ntmps12
  go_wp2
  go_loopw [14] (fun y wr => ∃ j : Nat, j ≤ n ∧ y = .int .i64 (j : Int) ∧ Since w wr) (fun y _ => n - (intOf y).toNat)
  case atStart => exact ⟨0, by omega, rfl, Since.refl _⟩
  case round =>
    obtain ⟨j, hj, rfl, hSr⟩ := hrel
    by_cases hjn : j < n
    · have hjn' : (j : Int) < n := by omega
      obtain ⟨b, o, rfl, hb, hc⟩ := hR (by omega)
      obtain ⟨b', o', rfl, hb', hc'⟩ := hR' (by omega)
      have c1 : wr.cell? ⟨b, o + j, none⟩ = some (.slice (D.A j) (D.N j) (D.C j)) := (hSr.1 _ _ hb).trans (hc j hjn)
      have d1 : wr.cell? ⟨b', o' + j, none⟩ = some (.slice (D'.A j) (D'.N j) (D'.C j)) := (hSr.1 _ _ hb').trans (hc' j hjn)
      have hbw := hSr.2.2.1 _ hb
      have hbw' := hSr.2.2.1 _ hb'
      have kK := hK j hjn
      have kK' := hK' j hjn
      have hMj := hM j hjn
      obtain ⟨hNj, hXj⟩ := hl j hjn
      rw [hNj] at d1 kK'
      have HXJ := Lib.hid hXj
      clear hc hc' hNj hXj hl hR hR' hK hK' hM
      generalize D.A j = LA at *
      generalize D'.A j = LA' at *
      generalize D.N j = m at *
      generalize D.C j = cc at *
      generalize D'.C j = cc' at *
      have hm' : (m : Int) ≤ 9223372036854775807 := by simp only [maxLen] at hMj; omega
      go_upto_region 6 with fail
      refine wp_named fun wa hwa => ?_
      obtain rfl := hwa
      go_cut [27] (fun z wx => z = .bool false ∧ wx = wa.drew)
      case first =>
        go_region
        all_goals (go_wp2_with fail)
        all_goals go_meet
        all_goals exact ⟨rfl, rfl⟩
      obtain ⟨rfl, rfl⟩ := hcut
      have hS := hSr.drew
      have c1 : wa.drew.cell? ⟨b, o + j, none⟩ = _ := c1
      have d1 : wa.drew.cell? ⟨b', o' + j, none⟩ = _ := d1
      go_wp2_with fail
      go_loopw [33] (fun y wq => ∃ k : Nat, k ≤ m ∧ y = .int .i64 (k : Int) ∧ Since wa.drew wq) (fun y _ => m - (intOf y).toNat)
      case atStart => exact ⟨0, by omega, rfl, Since.refl _⟩
      case round =>
        obtain ⟨k, hk, rfl, hSq⟩ := hrel
        have c2 := (hSq.1 _ _ hbw).trans c1
        have d2 := (hSq.1 _ _ hbw').trans d1
        have hbq := hSq.2.2.1 _ hbw
        have hbq' := hSq.2.2.1 _ hbw'
        have hS2 := hS.trans hSq
        clear c1 d1
        by_cases hkm : k < m
        · have hkm' : (k : Int) < m := by omega
          obtain ⟨g, p, rfl, hg, hgc⟩ := kK (by omega)
          obtain ⟨g', p', rfl, hg', hgc'⟩ := kK' (by omega)
          obtain ⟨x1, x2, x3⟩ := hgc k hkm
          obtain ⟨y1, y2, y3⟩ := hgc' k hkm
          obtain ⟨e1, e2, e3⟩ := HXJ.out k hkm
          rw [e1] at y1
          rw [e2] at y2
          rw [e3] at y3
          have x1 := (hS2.1 _ _ hg).trans x1
          have x2 := (hS2.1 _ _ hg).trans x2
          have x3 := (hS2.1 _ _ hg).trans x3
          have y1 := (hS2.1 _ _ hg').trans y1
          have y2 := (hS2.1 _ _ hg').trans y2
          have y3 := (hS2.1 _ _ hg').trans y3
          have hgq := hS2.2.2.1 _ hg
          have hgq' := hS2.2.2.1 _ hg'
          clear hgc hgc' kK kK' e1 e2 e3 HXJ
          generalize D.X j k = xx at *
          generalize D.Y j k = yy at *
          generalize D.O j k = oo at *
          go_wp2_with fail
          go_region
          all_goals (go_wp2_with fail)
          all_goals go_roundw
          case rel => exact ⟨k + 1, by omega, by go_num, hSq.drew⟩
          case measure => simp [intOf]; omega
        · obtain rfl : k = m := by omega
          go_wp2_with fail
          go_roundw
          case rel => exact ⟨j + 1, by omega, by go_num, hS2⟩
          case measure => simp [intOf]; omega
    · obtain rfl : j = n := by omega
      go_wp2
      go_ret
      exact ⟨rfl, hSr⟩
end Go.Proofs.Ytcjjcjpkmjbfkaa

/-
  Outlines as lists of lists of knots: as they read, and as a call has made them.
-/
namespace Go.Proofs.Ytcjjcjpkmjbfkaa
open Go.RowKit Go.ChangeShapes Go.WideShapes Go.Deep
set_option linter.unusedVariables false

/-- A contour's header. -/
structure Hd where
  (A : Option Addr) (n c : Nat)
def hdL (h : Hd) : List Value := [.slice h.A h.n h.c]
theorem hdL_len (h : Hd) : (hdL h).length = 1 := rfl
theorem hdL_one (h : Hd) : ∀ u ∈ hdL h, u.oneCell' = true := by
  intro u hu
  simp only [hdL, List.mem_cons, List.not_mem_nil, or_false] at hu
  subst hu
  rfl
theorem infoCt0 : (Try.prog.info? 64).map (fun i => (i.zero, i.size, i.bytes)) = some (some (.slice none 0 0), 1, 24) := by kernel_rfl
theorem infoCt : ∃ i z, Try.prog.info? 64 = some i ∧ i.zero = some z ∧ i.size = 1 ∧ i.bytes = 24 ∧ z.cells.size = 1 := by
  obtain ⟨i0, hi, hz0, hz1, hz2⟩ := info_parts infoCt0
  exact ⟨i0, _, hi, hz0, hz1, hz2, rfl⟩
/-- An outline as it reads, in blocks below B. -/
def RdOL (w : World) (B : Nat) (A : Option Addr) (LL : List (List Kt)) : Prop :=
  ∃ hs : List Hd, hs.length = LL.length ∧ RdG 1 hdL w B A hs ∧ ∀ (j : Nat) h L, hs[j]? = some h → LL[j]? = some L → h.n = L.length ∧ RdKl w B h.A L
section
variable {w w' : World} {B B' : Nat} {A : Option Addr} {LL : List (List Kt)}
theorem RdOL.keep (h : RdOL w B A LL) (hk : ∀ b o, b < B → w'.cell? ⟨b, o, none⟩ = w.cell? ⟨b, o, none⟩) : RdOL w' B A LL := by
  obtain ⟨hs, hl, hr, hK⟩ := h
  exact ⟨hs, hl, hr.keep hk, fun j x L h1 h2 => ⟨(hK j x L h1 h2).1, (hK j x L h1 h2).2.keep hk⟩⟩
theorem RdOL.more (h : RdOL w B A LL) (hB : B ≤ B') : RdOL w B' A LL := by
  obtain ⟨hs, hl, hr, hK⟩ := h
  exact ⟨hs, hl, hr.more hB, fun j x L h1 h2 => ⟨(hK j x L h1 h2).1, (hK j x L h1 h2).2.more hB⟩⟩
theorem RdOL.on (h : RdOL w w.heap.size A LL) (k : Since w w') : RdOL w' w'.heap.size A LL := (h.keep fun b o hb => k.1 b o hb).more k.below.size
/-- One contour: its header's cell, and its knots. -/
theorem RdOL.row (h : RdOL w B A LL) {j : Nat} {L : List Kt} (hj : LL[j]? = some L) : ∃ b o A' c', A = some ⟨b, o, none⟩ ∧ b < B ∧ w.cell? ⟨b, o + j, none⟩ = some (.slice A' L.length c') ∧ RdKl w B A' L := by
  obtain ⟨hs, hl, hr, hK⟩ := h
  have hjl : j < hs.length := by
    rw [hl]
    rcases Nat.lt_or_ge j LL.length with h | h
    · exact h
    · rw [List.getElem?_eq_none h] at hj; cases hj
  obtain ⟨b, o, rfl, hb, hc⟩ := hr (by omega)
  have h1 : hs[j]? = some hs[j] := List.getElem?_eq_getElem hjl
  obtain ⟨e1, h2⟩ := hK j _ L h1 hj
  refine ⟨b, o, hs[j].A, hs[j].c, rfl, hb, ?_, h2⟩
  have h3 := hc j _ h1 0 (by omega)
  rw [Nat.mul_one, Nat.add_zero] at h3
  rw [h3, ← e1]
  rfl
end
/-- An outline that a call has made. -/
def OwnO (w : World) (base : Nat) (v : Value) (LL : List (List Kt)) : Prop :=
  ∃ hs : List Hd, hs.length = LL.length ∧ OwnG 64 1 hdL w base v hs ∧ ∀ (j : Nat) h L, hs[j]? = some h → LL[j]? = some L → OwnK w base (.slice h.A h.n h.c) L
theorem own_apart {α β : Type} {e1 : α → List Value} {e2 : β → List Value} {t1 t2 : TypeId} {k1 k2 b1 b2 : Nat} {w : World} {v1 v2 : Value} {L1 : List α} {L2 : List β} (h1 : OwnG t1 k1 e1 w b1 v1 L1) (h2 : OwnG t2 k2 e2 w b2 v2 L2) (ht : t1 ≠ t2) {q : Nat} (hq : v1.ownBlock = some q) : v2.ownBlock ≠ some q := by
  intro hq2
  rcases h1.2 with ⟨rfl, _⟩ | ⟨g, c, cur, rfl, _, hh, _⟩
  · cases hq
  · rcases h2.2 with ⟨rfl, _⟩ | ⟨g', c', cur', rfl, _, hh', _⟩
    · cases hq2
    · simp only [Value.ownBlock, Option.some.injEq] at hq hq2
      subst hq
      subst hq2
      rw [hh] at hh'
      injection hh' with hh'
      injection hh' with _ e _
      exact ht e
section
variable {w w' : World} {base : Nat} {v : Value} {LL : List (List Kt)}
theorem OwnO.nil (w : World) (base : Nat) : OwnO w base (.slice none 0 0) [] := ⟨[], rfl, OwnG.nil _ _ _ _ _, fun j h L h1 h2 => by simp at h1⟩
theorem OwnO.since (h : OwnO w base v LL) (k : Since w w') : OwnO w' base v LL := by
  obtain ⟨hs, hl, ho, hK⟩ := h
  exact ⟨hs, hl, ho.since k, fun j x L h1 h2 => (hK j x L h1 h2).since k⟩
theorem OwnO.rd (h : OwnO w base v LL) : ∃ A c, v = .slice A LL.length c ∧ LL.length ≤ c ∧ RdOL w w.heap.size A LL := by
  obtain ⟨hs, hl, ho, hK⟩ := h
  obtain ⟨A, c, rfl, hc, hr⟩ := ho.rd (by omega) hdL_len
  rw [hl] at hc ⊢
  refine ⟨A, c, rfl, hc, hs, hl, hr, fun j x L h1 h2 => ?_⟩
  obtain ⟨A', c', e, hc', hr'⟩ := (hK j x L h1 h2).rd (by omega) knL_len
  injection e with e1 e2 e3
  exact ⟨e2, by rw [e1]; exact hr'⟩
/-- .. with a contour more, behind an append to its headers. -/
theorem OwnO.snoc {v' : Value} {A' : Option Addr} {n' c' : Nat} {L : List Kt} (h : OwnO w base v LL) (hrow : OwnK w base (.slice A' n' c') L) {hs : List Hd} (hl : hs.length = LL.length)
    (ho : OwnG 64 1 hdL w base v hs) (hK : ∀ (j : Nat) h L, hs[j]? = some h → LL[j]? = some L → OwnK w base (.slice h.A h.n h.c) L)
    (h9 : OwnG 64 1 hdL w' base v' (hs ++ [⟨A', n', c'⟩])) (hg : w.grownBy w' v.ownBlock) : OwnO w' base v' (LL ++ [L]) := by
  have hne : 64 ≠ 62 := by decide
  refine ⟨hs ++ [⟨A', n', c'⟩], by simp [hl], h9, fun j x M h1 h2 => ?_⟩
  by_cases hj : j < hs.length
  · rw [List.getElem?_append_left hj] at h1
    rw [List.getElem?_append_left (by omega)] at h2
    have hk := hK j x M h1 h2
    exact OwnG.grown hk hg (fun q hq e => own_apart ho hk hne e hq)
  · rw [List.getElem?_append_right (by omega)] at h1
    rw [List.getElem?_append_right (by omega)] at h2
    have e : j - hs.length = 0 := by
      rcases Nat.eq_zero_or_pos (j - hs.length) with h | h
      · exact h
      · rw [List.getElem?_eq_none (by simp; omega)] at h1; cases h1
    rw [e] at h1
    rw [← hl, e] at h2
    simp only [List.getElem?_cons_zero, Option.some.injEq] at h1 h2
    subst h1 h2
    exact OwnG.grown hrow hg (fun q hq e => own_apart ho hrow hne e hq)
end
/-- What 'Same' needs. -/
def outD (LL : List (List Kt)) (hs : List Hd) : OutD :=
  ⟨LL.length, fun j => (hs.getD j ⟨none, 0, 0⟩).A, fun j => (LL.getD j []).length, fun j => (hs.getD j ⟨none, 0, 0⟩).c, fun j i => ((LL.getD j []).getD i ⟨0, 0, false⟩).x, fun j i => ((LL.getD j []).getD i ⟨0, 0, false⟩).y, fun j i => ((LL.getD j []).getD i ⟨0, 0, false⟩).o⟩
theorem RdOL.out {w : World} {B : Nat} {A : Option Addr} {LL : List (List Kt)} (h : RdOL w B A LL) (hm : ∀ L, L ∈ LL → L.length ≤ maxLen) : ∃ hs, RdO w B A (outD LL hs) := by
  obtain ⟨hs, hl, hr, hK⟩ := h
  refine ⟨hs, fun hn => ?_, fun j hj => ?_, fun j hj => ?_⟩
  · obtain ⟨b, o, rfl, hb, hc⟩ := hr (by rw [hl]; exact hn)
    refine ⟨b, o, rfl, hb, fun j hj => ?_⟩
    have hj' : j < LL.length := hj
    have h1 : hs[j]? = some hs[j] := List.getElem?_eq_getElem (by omega)
    have h2 : LL[j]? = some LL[j] := List.getElem?_eq_getElem hj'
    have h3 := hc j _ h1 0 (by omega)
    rw [Nat.mul_one, Nat.add_zero] at h3
    rw [h3]
    unfold OutD.hd outD
    simp only [List.getD_eq_getElem?_getD, h1, h2, Option.getD_some]
    rw [← (hK j _ _ h1 h2).1]
    rfl
  · have hj' : j < LL.length := hj
    have h1 : hs[j]? = some hs[j] := List.getElem?_eq_getElem (by omega)
    have h2 : LL[j]? = some LL[j] := List.getElem?_eq_getElem hj'
    have hk := (hK j _ _ h1 h2).2
    unfold outD
    simp only [List.getD_eq_getElem?_getD, h1, h2, Option.getD_some]
    intro hn
    obtain ⟨b, o, e, hb, hc⟩ := hk hn
    refine ⟨b, o, e, hb, fun i hi => ?_⟩
    have h4 : LL[j][i]? = some LL[j][i] := List.getElem?_eq_getElem hi
    have h5 := hc i _ h4
    simp only [h4, Option.getD_some]
    exact ⟨h5 0 (by omega), h5 1 (by omega), h5 2 (by omega)⟩
  · have hj' : j < LL.length := hj
    have h2 : LL[j]? = some LL[j] := List.getElem?_eq_getElem hj'
    show (LL.getD j []).length ≤ maxLen
    rw [List.getD_eq_getElem?_getD, h2]
    exact hm _ (List.getElem_mem hj')
theorem rf_sameL (A A' : Option Addr) (c c' : Nat) (LL : List (List Kt)) (w : World) (h : RdOL w w.heap.size A LL) (h' : RdOL w w.heap.size A' LL) (hn : LL.length ≤ maxLen) (hm : ∀ L, L ∈ LL → L.length ≤ maxLen) :
    Calls Try.prog 12 #[.slice A LL.length c, .slice A' LL.length c'] w fun e w' => e = .returned (.bool true) ∧ Since w w' := by
  obtain ⟨hs, h1⟩ := h.out hm
  obtain ⟨hs', h2⟩ := h'.out hm
  exact rf_same7 A A' c c' (outD LL hs) (outD LL hs') w h1 h2 ⟨rfl, fun j hj => ⟨rfl, fun i hi => ⟨rfl, rfl, rfl⟩⟩⟩ hn
end Go.Proofs.Ytcjjcjpkmjbfkaa

/-
  All blocks but one stand.
-/
namespace Go.Proofs.Ytcjjcjpkmjbfkaa
open Go.RowKit Go.ChangeShapes Go.WideShapes
set_option linter.unusedVariables false

/-- All blocks but one are as they were. -/
def KeepBut (q : Nat) (w w' : World) : Prop := w.heap.size ≤ w'.heap.size ∧ ∀ b, b < w.heap.size → b ≠ q → w'.heap[b]? = w.heap[b]?
theorem KeepBut.refl (q : Nat) (w : World) : KeepBut q w w := ⟨Nat.le_refl _, fun _ _ _ => rfl⟩
theorem KeepBut.trans {q : Nat} {a b c : World} (h : KeepBut q a b) (k : KeepBut q b c) : KeepBut q a c := ⟨Nat.le_trans h.1 k.1, fun x hx hq => (k.2 x (Nat.lt_of_lt_of_le hx h.1) hq).trans (h.2 x hx hq)⟩
theorem KeepBut.since {q : Nat} {a b c : World} (h : KeepBut q a b) (k : Since b c) : KeepBut q a c := ⟨Nat.le_trans h.1 k.below.size, fun x hx hq => (k.below.block x (Nat.lt_of_lt_of_le hx h.1)).trans (h.2 x hx hq)⟩
theorem KeepBut.set {q : Nat} {a b : World} (h : KeepBut q a b) (o : Nat) (v : Value) : KeepBut q a (b.setCell ⟨q, o, none⟩ v) := ⟨by simpa [World.setCell] using h.1, fun x hx hq => by
  rw [← h.2 x hx hq]
  simp [World.setCell, Array.getElem?_modify, show ¬ q = x from fun e => hq e.symm]⟩
theorem KeepBut.cell {q : Nat} {a b : World} (h : KeepBut q a b) {x o : Nat} {v : Value} (hc : a.cell? ⟨x, o, none⟩ = some v) (hx : x < a.heap.size) (hq : x ≠ q) : b.cell? ⟨x, o, none⟩ = some v := by
  rw [← hc]; simp only [World.cell?, h.2 x hx hq]
end Go.Proofs.Ytcjjcjpkmjbfkaa

/-
  Rows that a call has made and fills in place: 'make', and stores into them.
-/
namespace Go.Proofs.Ytcjjcjpkmjbfkaa
open Go.RowKit Go.ChangeShapes Go.WideShapes Go.Deep
set_option linter.unusedVariables false

theorem OwnG.but {α : Type} {enc : α → List Value} {t : TypeId} {k base q : Nat} {w w' : World} {v : Value} {L : List α} (h : OwnG t k enc w base v L) (hk : KeepBut q w w') (hq : v.ownBlock ≠ some q) : OwnG t k enc w' base v L := by
  refine ⟨h.1, ?_⟩
  rcases h.2 with h0 | ⟨g, cap, cur, rfl, hb, hh, r⟩
  · exact .inl h0
  · refine .inr ⟨g, cap, cur, rfl, hb, ?_, r⟩
    have hlt : g < w.heap.size := by
      rcases Nat.lt_or_ge g w.heap.size with hlt | hge
      · exact hlt
      · rw [Array.getElem?_eq_none hge] at hh; cases hh
    rw [hk.2 g hlt (fun e => hq (by rw [← e]; rfl))]; exact hh
section
variable {α : Type} {k : Nat} {enc : α → List Value} {P : Program}
theorem made_cells (hk0 : 0 < k) (hk : ∀ a, (enc a).length = k) (z0 : α) (z : Array Value) (hz : z.toList = enc z0) (n : Nat) : (madeCells z (n * k)).toList = cellsG enc (List.replicate n z0) := by
  have hzs : z.size = k := by rw [← Array.length_toList, hz, hk]
  apply List.ext_getElem?
  intro j
  by_cases hj : j < n * k
  · have hjk : j / k < n := by rw [Nat.div_lt_iff_lt_mul hk0]; exact hj
    have hm := Nat.mod_lt j hk0
    have h1 := cellsG_get hk (List.replicate n z0) (j / k) z0 (by simp [hjk]) (j % k) hm
    rw [Nat.div_add_mod' j k] at h1
    rw [h1, ← hz]
    have h2 : j % k < z.size := by omega
    simp [madeCells, hj, hzs]
    rw [getElem!_pos z _ h2, getElem?_pos z _ h2]
  · rw [List.getElem?_eq_none (by simp [madeCells]; omega), List.getElem?_eq_none (by rw [cellsG_len hk]; simp; omega)]
/-- make([]T, n): an own row of zero values. -/
theorem wpList_make_g {w : World} {ops : Array Oper} {rest : List Oper} {o : Oper} {a : Act} {Q : Exit → Act → World → Prop}
    (hg : o.guard = none) (l c : Operand) (t e : TypeId) (hop : o.op = Op.makeSlice t l c) (hk0 : 0 < k) (hk : ∀ a, (enc a).length = k) (bytes : Nat) (z0 : α)
    (ht : P.underlying t = some (.slice e)) (hinfo : ∃ i z, P.info? e = some i ∧ i.zero = some z ∧ i.size = k ∧ i.bytes = bytes ∧ z.cells.toList = enc z0)
    (n : Nat) (hl : a.eval l = .int .i64 (n : Int)) (hc : a.eval c = .int .i64 (n : Int)) (b2 : bytes * n ≤ 281474976710656) (b3 : n ≤ maxLen)
    (base : Nat) (hbase : base ≤ w.heap.size)
    (hK : ∀ w', OwnG e k enc w' base (.slice (some ⟨w.heap.size, 0, none⟩) n n) (List.replicate n z0) → w.grownBy w' none → wpList P ops Q rest (a.put o.dst (.slice (some ⟨w.heap.size, 0, none⟩) n n)) w') :
    wpList P ops Q (o :: rest) a w := by
  obtain ⟨i, z, hi, hz, hsz, hby, hzc⟩ := hinfo
  refine wpList_make_full w hg l c t hop base e i z k ht hi hz hsz .i64 .i64 (n : Int) (n : Int) n hl hc rfl rfl (by rw [hby]; exact b2) b3 hbase (fun w' hown hgr => hK w' ?_ hgr)
  rw [made_cells hk0 hk z0 z.cells hzc] at hown
  unfold OwnG
  rw [List.length_replicate]
  exact hown
end
theorem infoKn2 : ∃ i z, Try.prog.info? 62 = some i ∧ i.zero = some z ∧ i.size = 3 ∧ i.bytes = 24 ∧ z.cells.toList = knL ⟨0, 0, false⟩ := by
  obtain ⟨i0, hi, hz0, hz1, hz2⟩ := info_parts infoKn0
  exact ⟨i0, _, hi, hz0, hz1, hz2, rfl⟩
theorem infoCt2 : ∃ i z, Try.prog.info? 64 = some i ∧ i.zero = some z ∧ i.size = 1 ∧ i.bytes = 24 ∧ z.cells.toList = hdL ⟨none, 0, 0⟩ := by
  obtain ⟨i0, hi, hz0, hz1, hz2⟩ := info_parts infoCt0
  exact ⟨i0, _, hi, hz0, hz1, hz2, rfl⟩
theorem set_app {α : Type} (A B : List α) (j : Nat) (v : α) : (A ++ B).set (A.length + j) v = A ++ B.set j v := by
  rw [List.set_append_right _ _ (by omega)]
  congr 2
  omega
theorem cellsK_set : ∀ (L : List Kt) (i : Nat) (x y : Int) (o : Bool), i < L.length → (((cellsG knL L).set (i * 3) (.int .i64 x)).set (i * 3 + 1) (.int .i64 y)).set (i * 3 + 2) (.bool o) = cellsG knL (L.set i ⟨x, y, o⟩)
  | [], i, x, y, o, h => by simp at h
  | k :: L, 0, x, y, o, h => by simp [cellsG, knL]
  | k :: L, i + 1, x, y, o, h => by
    have ih := cellsK_set L i x y o (by simpa using h)
    have e0 : cellsG knL (k :: L) = knL k ++ cellsG knL L := by simp [cellsG]
    have e1 : cellsG knL ((k :: L).set (i + 1) ⟨x, y, o⟩) = knL k ++ cellsG knL (L.set i ⟨x, y, o⟩) := by simp [cellsG]
    have el : (knL k).length = 3 := rfl
    rw [e0, e1, ← ih, show (i + 1) * 3 = (knL k).length + i * 3 by rw [el]; omega, set_app, Nat.add_assoc, set_app, Nat.add_assoc, set_app]
theorem OwnK.put {w : World} {base q n c : Nat} {L : List Kt} (h : OwnK w base (.slice (some ⟨q, 0, none⟩) n c) L) (i : Nat) (x y : Int) (o : Bool) (hi : i < L.length) :
    OwnK (((w.setCell ⟨q, i * 3, none⟩ (.int .i64 x)).setCell ⟨q, i * 3 + 1, none⟩ (.int .i64 y)).setCell ⟨q, i * 3 + 2, none⟩ (.bool o)) base (.slice (some ⟨q, 0, none⟩) n c) (L.set i ⟨x, y, o⟩) := by
  have hn : n = L.length := by
    rcases h.2 with ⟨h0, _⟩ | ⟨g, cap, cur, h0, _⟩
    · cases h0
    · injection h0 with _ h1 _
  subst hn
  have h3 := ((World.ownsRow.stored (World.ownsRow.stored (World.ownsRow.stored h (i * 3) (.int .i64 x)).1 (i * 3 + 1) (.int .i64 y)).1 (i * 3 + 2) (.bool o)).1)
  rw [cellsK_set L i x y o hi] at h3
  unfold OwnK OwnG
  rw [List.length_set]
  exact h3
theorem OwnH.put {w : World} {base q n c : Nat} {hs : List Hd} (h : OwnG 64 1 hdL w base (.slice (some ⟨q, 0, none⟩) n c) hs) (i : Nat) (A : Option Addr) (m d : Nat) (hi : i < hs.length) :
    OwnG 64 1 hdL (w.setCell ⟨q, i, none⟩ (.slice A m d)) base (.slice (some ⟨q, 0, none⟩) n c) (hs.set i ⟨A, m, d⟩) := by
  have hn : n = hs.length := by
    rcases h.2 with ⟨h0, _⟩ | ⟨g, cap, cur, h0, _⟩
    · cases h0
    · injection h0 with _ h1 _
  subst hn
  have h3 := (World.ownsRow.stored h i (.slice A m d)).1
  have e : (cellsG hdL hs).set i (.slice A m d) = cellsG hdL (hs.set i ⟨A, m, d⟩) := by
    clear h h3
    induction hs generalizing i with
    | nil => simp at hi
    | cons a r ih =>
      cases i with
      | zero => simp [cellsG, hdL]
      | succ i =>
        have := ih i (by simpa using hi)
        simp only [cellsG, List.flatMap_cons, hdL, List.cons_append, List.nil_append, List.set_cons_succ] at this ⊢
        rw [this]
  rw [e] at h3
  unfold OwnG
  rw [List.length_set]
  exact h3
end Go.Proofs.Ytcjjcjpkmjbfkaa

/-
  append where the two slices' types have different names.
-/
namespace Go.Proofs.Ytcjjcjpkmjbfkaa
open Go.RowKit Go.ChangeShapes Go.WideShapes Go.Deep
set_option linter.unusedVariables false

theorem append_types {P : Program} {t t2 e e2 : TypeId} (h1 : P.underlying t = some (.slice e)) (h2 : P.underlying t2 = some (.slice e2)) (ty : TypeId) (args : Array Value) (w : World) :
    (Builtin.append_ #[t, t2] ty args).run P w = (Builtin.append_ #[t, t] ty args).run P w := by
  unfold Builtin.append_
  rcases h : args[0]? with _ | s
  · simp
  · rcases h' : args[1]? with _ | x
    · simp
    · cases s <;> simp [run_underlying h1, run_underlying h2]
section
variable {P : Program} (w : World)
theorem wpList_append_kt {ops : Array Oper} {rest : List Oper} {o : Oper} {a : Act} {Q : Exit → Act → World → Prop} (hgd : o.guard = none) (s x : Operand) (t t2 e2 : TypeId)
    (ho : o.op = .call { callee := .builtin .append, args := #[s, x], argTypes := #[t, t2] })
    (base : Nat) (e : TypeId) (i : TypeInfo) (z : Value) (k bytes : Nat) (ht : P.underlying t = some (.slice e)) (ht2 : P.underlying t2 = some (.slice e2)) (hi : P.info? e = some i) (hz : i.zero = some z)
    (hsize : i.size = k) (hby : i.bytes = bytes) (hzs : z.cells.size = k) (hk : 0 < k) (v : Value) (n : Nat) (xs : List Value) (hs : a.eval s = v) (hown : w.ownsRow base e k v n xs)
    (B : Nat) (A : Option Addr) (m c : Nat) (V : Nat → Value) (hx : a.eval x = .slice A m c) (hr : Rd w B A (m * k) V) (h1 : ∀ u ∈ tab (m * k) V, u.oneCell' = true) (hbytes : (n + m) * bytes ≤ 140737488355328) (h63 : n + m ≤ maxLen) (hbase : base ≤ w.heap.size)
    (h : ∀ v' w', w'.ownsRow base e k v' (n + m) (xs ++ tab (m * k) V) → w.grownBy w' v.ownBlock → wpList P ops Q rest (a.put o.dst v') w') :
    wpList P ops Q (o :: rest) a w := by
  refine wpList_plain hgd fun K hK => ?_
  obtain ⟨v', w', hr, h2, h3⟩ := run_append_k (P := P) w base t o.type e i z k bytes ht hi hz hsize hby hzs hk v n xs hown B A m c V hr h1 hbytes h63 hbase
  rw [← append_types ht ht2] at hr
  unfold Oper.wp execOp
  simp only [ho, resolve, invoke, builtin, Sem.run_bind, Sem.run_pure, Result.andThen_ok, List.map_toArray, List.map_cons, List.map_nil, hs, hx, hr]
  exact hK _ _ (h v' w' h2 h3)
theorem run_append_kw (base : Nat) (t ty e : TypeId) (i : TypeInfo) (z : Value) (k bytes : Nat) (ht : P.underlying t = some (.slice e)) (hi : P.info? e = some i) (hz : i.zero = some z)
    (hsize : i.size = k) (hby : i.bytes = bytes) (hzs : z.cells.size = k) (hk : 0 < k) (v : Value) (n : Nat) (xs : List Value) (hown : w.ownsRow base e k v n xs)
    (B : Nat) (A : Option Addr) (m c : Nat) (V : Nat → Value) (hr : Rd w B A (m * k) V) (h1 : ∀ u ∈ tab (m * k) V, u.oneCell' = true) (hbytes : (n + m) * bytes ≤ 140737488355328) (h63 : n + m ≤ maxLen) (hbase : base ≤ w.heap.size) :
    ∃ v' w', (Builtin.append_ #[t, t] ty #[v, .slice A m c]).run P w = .ok v' w' ∧ w'.ownsRow base e k v' (n + m) (xs ++ tab (m * k) V) ∧ w.grownBy w' v.ownBlock ∧ (v'.ownBlock = v.ownBlock ∨ v'.ownBlock = some w.heap.size) := by
  rcases A with _ | ad
  · have hm : m = 0 := by
      rcases Nat.eq_zero_or_pos m with h0 | h0
      · exact h0
      · obtain ⟨b, o, h, _⟩ := hr (Nat.mul_pos h0 hk); cases h
    subst hm
    refine ⟨v, w, ?_, by simpa [tab_zero] using hown, World.grownBy.refl w _, .inl rfl⟩
    rcases hown.2 with ⟨rfl, hn⟩ | ⟨g, cap, cur, rfl, _, _, hnc, _⟩
    · subst hn
      simp [Builtin.append_, run_underlying ht, sizeOf, typeInfo, hi, Builtin.lenOf, Builtin.firstCells]
    · simp [Builtin.append_, run_underlying ht, sizeOf, typeInfo, hi, Builtin.lenOf, Builtin.firstCells, hnc, storeCells]
  · have hc : ∀ j u, (tab (m * k) V)[j]? = some u → w.cell? (ad.add j) = some u := by
      intro j u hu
      rw [tab_get] at hu
      split at hu
      · rename_i hj
        obtain ⟨b, o, h, _, hc⟩ := hr (by omega)
        injection h with h; subst h; injection hu with hu; subst hu
        rw [add_plain]
        exact hc j hj
      · cases hu
    obtain ⟨v', w', hrun, h2, h3, _, h5⟩ := run_append_own_at (P := P) w base t ty e i z k bytes ht hi hz hsize hby hzs hk v n xs hown ad m c (tab (m * k) V) (by rw [tab_len]) hc h1 h63 hbytes hbase
    exact ⟨v', w', hrun, h2, h3, h5⟩
theorem wpList_append_kw {ops : Array Oper} {rest : List Oper} {o : Oper} {a : Act} {Q : Exit → Act → World → Prop} (hgd : o.guard = none) (s x : Operand) (t t2 e2 : TypeId)
    (ho : o.op = .call { callee := .builtin .append, args := #[s, x], argTypes := #[t, t2] })
    (base : Nat) (e : TypeId) (i : TypeInfo) (z : Value) (k bytes : Nat) (ht : P.underlying t = some (.slice e)) (ht2 : P.underlying t2 = some (.slice e2)) (hi : P.info? e = some i) (hz : i.zero = some z)
    (hsize : i.size = k) (hby : i.bytes = bytes) (hzs : z.cells.size = k) (hk : 0 < k) (v : Value) (n : Nat) (xs : List Value) (hs : a.eval s = v) (hown : w.ownsRow base e k v n xs)
    (B : Nat) (A : Option Addr) (m c : Nat) (V : Nat → Value) (hx : a.eval x = .slice A m c) (hr : Rd w B A (m * k) V) (h1 : ∀ u ∈ tab (m * k) V, u.oneCell' = true) (hbytes : (n + m) * bytes ≤ 140737488355328) (h63 : n + m ≤ maxLen) (hbase : base ≤ w.heap.size)
    (h : ∀ v' w', w'.ownsRow base e k v' (n + m) (xs ++ tab (m * k) V) → w.grownBy w' v.ownBlock → (v'.ownBlock = v.ownBlock ∨ v'.ownBlock = some w.heap.size) → wpList P ops Q rest (a.put o.dst v') w') :
    wpList P ops Q (o :: rest) a w := by
  refine wpList_plain hgd fun K hK => ?_
  obtain ⟨v', w', hr, h2, h3, h4⟩ := run_append_kw (P := P) w base t o.type e i z k bytes ht hi hz hsize hby hzs hk v n xs hown B A m c V hr h1 hbytes h63 hbase
  rw [← append_types ht ht2] at hr
  unfold Oper.wp execOp
  simp only [ho, resolve, invoke, builtin, Sem.run_bind, Sem.run_pure, Result.andThen_ok, List.map_toArray, List.map_cons, List.map_nil, hs, hx, hr]
  exact hK _ _ (h v' w' h2 h3 h4)
end
section
variable {α : Type} {k : Nat} {enc : α → List Value} {P : Program}
/-- append of a slice to an own row; the types may have different names. -/
theorem wpList_append_t {w : World} {ops : Array Oper} {rest : List Oper} {o : Oper} {a : Act} {Q : Exit → Act → World → Prop} (hgd : o.guard = none) (s x : Operand) (t t2 e e2 : TypeId)
    (ho : o.op = .call { callee := .builtin .append, args := #[s, x], argTypes := #[t, t2] }) (hk0 : 0 < k) (hk : ∀ a, (enc a).length = k) (h1 : ∀ a, ∀ u ∈ enc a, u.oneCell' = true) (bytes : Nat)
    (ht : P.underlying t = some (.slice e)) (ht2 : P.underlying t2 = some (.slice e2)) (hinfo : ∃ i z, P.info? e = some i ∧ i.zero = some z ∧ i.size = k ∧ i.bytes = bytes ∧ z.cells.size = k)
    (base : Nat) (v : Value) (L : List α) (hs : a.eval s = v) (hown : OwnG e k enc w base v L) (B : Nat) (A : Option Addr) (c : Nat) (M : List α) (hx : a.eval x = .slice A M.length c) (hr : RdG k enc w B A M)
    (hbytes : (L.length + M.length) * bytes ≤ 140737488355328) (h63 : L.length + M.length ≤ maxLen) (hbase : base ≤ w.heap.size)
    (h : ∀ v' w', OwnG e k enc w' base v' (L ++ M) → w.grownBy w' v.ownBlock → (∀ q, v.ownBlock = some q → base ≤ q ∧ q < w.heap.size) → wpList P ops Q rest (a.put o.dst v') w') :
    wpList P ops Q (o :: rest) a w := by
  obtain ⟨i, z, hi, hz, hsz, hby, hzs⟩ := hinfo
  have hrr : Rd w B A (M.length * k) (fun j => (cellsG enc M).getD j undef) := fun hn => by
    have hM : 0 < M.length := by
      rcases Nat.eq_zero_or_pos M.length with h | h
      · rw [h, Nat.zero_mul] at hn; omega
      · exact h
    obtain ⟨b, o', rfl, hb, hc⟩ := hr hM
    refine ⟨b, o', rfl, hb, fun j hj => ?_⟩
    have hjk : j / k < M.length := by rw [Nat.div_lt_iff_lt_mul hk0]; exact hj
    have hm := Nat.mod_lt j hk0
    have hg := hc (j / k) _ (List.getElem?_eq_getElem hjk) (j % k) hm
    have hg2 := cellsG_get hk M (j / k) _ (List.getElem?_eq_getElem hjk) (j % k) hm
    rw [Nat.div_add_mod' j k] at hg2
    rw [Nat.add_assoc, Nat.div_add_mod' j k] at hg
    show _ = some ((cellsG enc M).getD j undef)
    rw [List.getD_eq_getElem?_getD, hg2, ← List.getD_eq_getElem?_getD]
    exact hg
  have hone : ∀ u ∈ tab (M.length * k) (fun j => (cellsG enc M).getD j undef), u.oneCell' = true := by
    rw [← cellsG_tab hk]
    intro u hu
    unfold cellsG at hu
    rw [List.mem_flatMap] at hu
    obtain ⟨a, _, ha⟩ := hu
    exact h1 a u ha
  have hlt := fun q (hq : v.ownBlock = some q) => hown.lt hq
  refine wpList_append_kt w hgd s x t t2 e2 ho base e i z k bytes ht ht2 hi hz hsz hby hzs hk0 v L.length (cellsG enc L) hs hown B A M.length c _ hx hrr hone hbytes h63 hbase (fun v' w' h9 hg => h v' w' ?_ hg hlt)
  rw [← cellsG_tab hk, ← cellsG_append] at h9
  unfold OwnG
  rw [List.length_append]
  exact h9
/-- append of a slice to an own row; where the row lies then. -/
theorem wpList_append_w {w : World} {ops : Array Oper} {rest : List Oper} {o : Oper} {a : Act} {Q : Exit → Act → World → Prop} (hgd : o.guard = none) (s x : Operand) (t t2 e e2 : TypeId)
    (ho : o.op = .call { callee := .builtin .append, args := #[s, x], argTypes := #[t, t2] }) (hk0 : 0 < k) (hk : ∀ a, (enc a).length = k) (h1 : ∀ a, ∀ u ∈ enc a, u.oneCell' = true) (bytes : Nat)
    (ht : P.underlying t = some (.slice e)) (ht2 : P.underlying t2 = some (.slice e2)) (hinfo : ∃ i z, P.info? e = some i ∧ i.zero = some z ∧ i.size = k ∧ i.bytes = bytes ∧ z.cells.size = k)
    (base : Nat) (v : Value) (L : List α) (hs : a.eval s = v) (hown : OwnG e k enc w base v L) (B : Nat) (A : Option Addr) (c : Nat) (M : List α) (hx : a.eval x = .slice A M.length c) (hr : RdG k enc w B A M)
    (hbytes : (L.length + M.length) * bytes ≤ 140737488355328) (h63 : L.length + M.length ≤ maxLen) (hbase : base ≤ w.heap.size)
    (h : ∀ v' w', OwnG e k enc w' base v' (L ++ M) → w.grownBy w' v.ownBlock → (∀ q, v.ownBlock = some q → base ≤ q ∧ q < w.heap.size) → (v'.ownBlock = v.ownBlock ∨ v'.ownBlock = some w.heap.size) → wpList P ops Q rest (a.put o.dst v') w') :
    wpList P ops Q (o :: rest) a w := by
  obtain ⟨i, z, hi, hz, hsz, hby, hzs⟩ := hinfo
  have hrr : Rd w B A (M.length * k) (fun j => (cellsG enc M).getD j undef) := fun hn => by
    have hM : 0 < M.length := by
      rcases Nat.eq_zero_or_pos M.length with h | h
      · rw [h, Nat.zero_mul] at hn; omega
      · exact h
    obtain ⟨b, o', rfl, hb, hc⟩ := hr hM
    refine ⟨b, o', rfl, hb, fun j hj => ?_⟩
    have hjk : j / k < M.length := by rw [Nat.div_lt_iff_lt_mul hk0]; exact hj
    have hm := Nat.mod_lt j hk0
    have hg := hc (j / k) _ (List.getElem?_eq_getElem hjk) (j % k) hm
    have hg2 := cellsG_get hk M (j / k) _ (List.getElem?_eq_getElem hjk) (j % k) hm
    rw [Nat.div_add_mod' j k] at hg2
    rw [Nat.add_assoc, Nat.div_add_mod' j k] at hg
    show _ = some ((cellsG enc M).getD j undef)
    rw [List.getD_eq_getElem?_getD, hg2, ← List.getD_eq_getElem?_getD]
    exact hg
  have hone : ∀ u ∈ tab (M.length * k) (fun j => (cellsG enc M).getD j undef), u.oneCell' = true := by
    rw [← cellsG_tab hk]
    intro u hu
    unfold cellsG at hu
    rw [List.mem_flatMap] at hu
    obtain ⟨a, _, ha⟩ := hu
    exact h1 a u ha
  have hlt := fun q (hq : v.ownBlock = some q) => hown.lt hq
  refine wpList_append_kw w hgd s x t t2 e2 ho base e i z k bytes ht ht2 hi hz hsz hby hzs hk0 v L.length (cellsG enc L) hs hown B A M.length c _ hx hrr hone hbytes h63 hbase (fun v' w' h9 hg hw => h v' w' ?_ hg hlt hw)
  rw [← cellsG_tab hk, ← cellsG_append] at h9
  unfold OwnG
  rw [List.length_append]
  exact h9
end
/-- Two rows that lie apart. -/
def Apart7 (v u : Value) : Prop := ∀ k, v.ownBlock = some k → u.ownBlock ≠ some k
theorem Apart7.symm {v u : Value} (h : Apart7 v u) : Apart7 u v := fun k h1 h2 => h k h2 h1
/-- .. where one has grown. -/
theorem Apart7.grow {α : Type} {enc : α → List Value} {t : TypeId} {k base : Nat} {w : World} {v v' u : Value} {L : List α} (h : Apart7 v u) (hu : OwnG t k enc w base u L) (hv : v'.ownBlock = v.ownBlock ∨ v'.ownBlock = some w.heap.size) : Apart7 v' u := fun q h1 h2 => by
  rcases hv with e | e
  · exact h q (by rw [← e]; exact h1) h2
  · rw [e] at h1
    injection h1 with h1
    have := (hu.lt h2).2
    omega
end Go.Proofs.Ytcjjcjpkmjbfkaa

/-
  A knot in a block of its own.
-/
namespace Go.Proofs.Ytcjjcjpkmjbfkaa
open Go.RowKit Go.ChangeShapes Go.WideShapes Go.Deep
set_option linter.unusedVariables false

/-- The cells of a knot. -/
def Kf (x y : Int) (o : Bool) (j : Nat) : Value := if j = 0 then .int .i64 x else if j = 1 then .int .i64 y else .bool o
theorem krow (w : World) (b : Nat) (hb : b = w.heap.size) (t : TypeId) (x y : Int) (o : Bool) : Row (w.alloc (.cells #[.int .i64 x, .int .i64 y, .bool o] t)) b 3 (Kf x y o) := by
  subst hb
  refine Row.of_cells fun j hj => ?_
  have h : j = 0 ∨ j = 1 ∨ j = 2 := by omega
  rcases h with rfl | rfl | rfl <;> rfl
theorem kcells {w : World} {b : Nat} {x y : Int} {o : Bool} (h : Row w b 3 (Kf x y o)) : w.cell? ⟨b, 0, none⟩ = some (.int .i64 x) ∧ w.cell? ⟨b, 1, none⟩ = some (.int .i64 y) ∧ w.cell? ⟨b, 2, none⟩ = some (.bool o) ∧ b < w.heap.size := ⟨h.1 0 (by omega), h.1 1 (by omega), h.1 2 (by omega), h.2.2⟩
end Go.Proofs.Ytcjjcjpkmjbfkaa
