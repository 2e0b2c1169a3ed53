/-
  Layer 7: Read, walked.
-/
import Derived.Test.YtcjjcjpkmjbfkaaMhC
import Derived.Test.YtcjjcjpkmjbfkaaSiM
import Derived.Test.YtcjjcjpkmjbfkaaSiN
namespace Go.Proofs.Ytcjjcjpkmjbfkaa
open Go.RowKit Go.ChangeShapes Go.WideShapes Go.Deep
set_option linter.unusedVariables false
set_option linter.unusedSimpArgs false

/-- A block of two cells. -/
def Two (w : World) (b : Nat) (u v : Value) : Prop := w.cell? ⟨b, 0, none⟩ = some u ∧ w.cell? ⟨b, 1, none⟩ = some v ∧ w.frozen? ⟨b, 0, none⟩ = false ∧ w.frozen? ⟨b, 1, none⟩ = false ∧ b < w.heap.size
theorem Two.since {w w' : World} {b : Nat} {u v : Value} (h : Two w b u v) (k : Since w w') : Two w' b u v :=
  ⟨(k.1 _ _ h.2.2.2.2).trans h.1, (k.1 _ _ h.2.2.2.2).trans h.2.1, (k.2.1 _ _ h.2.2.2.2).trans h.2.2.1, (k.2.1 _ _ h.2.2.2.2).trans h.2.2.2.1, k.2.2.1 _ h.2.2.2.2⟩
theorem two_new (w : World) (b : Nat) (hb : b = w.heap.size) (u v : Value) (t : TypeId) : Two (w.alloc (.cells #[u, v] t)) b u v := by
  subst hb
  have h : Row (w.alloc (.cells #[u, v] t)) w.heap.size 2 (fun j => if j = 0 then u else v) := Row.of_cells fun j hj => by
    have h : j = 0 ∨ j = 1 := by omega
    rcases h with rfl | rfl <;> rfl
  exact ⟨h.1 0 (by omega), h.1 1 (by omega), h.2.1 0, h.2.1 1, h.2.2⟩
theorem si_ends_no (A : Option Addr) (n c : Nat) (f : Nat → Int) (k : Nat) (w : World) (h : Rd w w.heap.size A n (U8 f)) (hf : ∀ j, j < n → 0 ≤ f j ∧ f j ≤ 255) (hn : n ≤ 140737488355328) (hk0 : 1 ≤ k) (hk : k ≤ 32767) (x : Int) (hx : endsE f n k = x) (h0 : x ≠ 0) :
    Calls Try.prog 54 #[.slice A n c, .int .i64 (k : Int)] w fun e w' => e = .returned (.tuple #[.slice none 0 0, .int .i64 x]) ∧ Since w w' := by
  refine (si_ends A n c f k w h hf hn hk0 hk).mono ?_
  rintro e w' ⟨hS, (⟨_, rfl⟩ | ⟨h1, _⟩)⟩
  · exact ⟨by rw [hx], hS⟩
  · exact absurd (hx.symm.trans h1) h0
theorem si_ends_ok (A : Option Addr) (n c : Nat) (f : Nat → Int) (k : Nat) (w : World) (h : Rd w w.heap.size A n (U8 f)) (hf : ∀ j, j < n → 0 ≤ f j ∧ f j ≤ 255) (hn : n ≤ 140737488355328) (hk0 : 1 ≤ k) (hk : k ≤ 32767) (hx : endsE f n k = 0) :
    Calls Try.prog 54 #[.slice A n c, .int .i64 (k : Int)] w fun e w' => ∃ b, e = .returned (.tuple #[.slice (some ⟨b, 0, none⟩) k k, .int .i64 0]) ∧ Rd w' w'.heap.size (some ⟨b, 0, none⟩) k (I64 (en7 f)) ∧ Since w w' := by
  refine (si_ends A n c f k w h hf hn hk0 hk).mono ?_
  rintro e w' ⟨hS, (⟨h1, _⟩ | ⟨_, b, rfl, _, hr⟩)⟩
  · exact absurd hx h1
  · exact ⟨b, rfl, hr, hS⟩
theorem si_knots_no (A : Option Addr) (n c : Nat) (f : Nat → Int) (p m : Nat) (y x : Int) (w : World) (h : Rd w w.heap.size A n (U8 f)) (hf : ∀ j, j < n → 0 ≤ f j ∧ f j ≤ 255) (hy : y = (m : Int)) (q : Int) (hq : q = (p : Int)) (hpn : p ≤ n) (hn : n ≤ 140737488355328) (hm : m ≤ 4096) (hx : (knGo f n m p).e = x) (h0 : x ≠ 0) :
    Calls Try.prog 57 #[.slice A n c, .int .i64 q, .int .i64 y] w fun e w' => e = .returned (.tuple #[.slice none 0 0, .int .i64 x]) ∧ Since w w' := by
  subst hq
  refine (si_knots A n c f p m y w h hf hy hpn hn hm).mono ?_
  rintro e w' ⟨hS, (⟨_, rfl⟩ | ⟨h1, _⟩)⟩
  · exact ⟨by rw [hx], hS⟩
  · exact absurd (hx.symm.trans h1) h0
theorem si_knots_ok (A : Option Addr) (n c : Nat) (f : Nat → Int) (p m : Nat) (y : Int) (w : World) (h : Rd w w.heap.size A n (U8 f)) (hf : ∀ j, j < n → 0 ≤ f j ∧ f j ≤ 255) (hy : y = (m : Int)) (q : Int) (hq : q = (p : Int)) (hpn : p ≤ n) (hn : n ≤ 140737488355328) (hm : m ≤ 4096) (hx : (knGo f n m p).e = 0) :
    Calls Try.prog 57 #[.slice A n c, .int .i64 q, .int .i64 y] w fun e w' => ∃ b, e = .returned (.tuple #[.slice (some ⟨b, 0, none⟩) m m, .int .i64 0]) ∧ RdKl w' w'.heap.size (some ⟨b, 0, none⟩) (ktL m (fnL (knGo f n m p).X) (fnL (knGo f n m p).Y) (fun j => decide (Has8 (fnL (knGo f n m p).G j) 1))) ∧ Since w w' := by
  subst hq
  refine (si_knots A n c f p m y w h hf hy hpn hn hm).mono ?_
  rintro e w' ⟨hS, (⟨h1, _⟩ | ⟨_, b, rfl, hr⟩)⟩
  · exact absurd hx h1
  · exact ⟨b, rfl, hr, hS⟩
theorem zip7_kt : ∀ (X Y G : List Int), X.length = Y.length → X.length = G.length → ktL X.length (fnL X) (fnL Y) (fun j => decide (Has8 (fnL G j) 1)) = zip7 Kt.mk X Y (G.map (fun g => decide (Has8 g 1))) := by
  intro X
  induction X with
  | nil => intro Y G h1 h2; rfl
  | cons x X ih =>
    intro Y G h1 h2
    cases Y with
    | nil => simp at h1
    | cons y Y =>
      cases G with
      | nil => simp at h2
      | cons g G =>
        have := ih Y G (by simpa using h1) (by simpa using h2)
        unfold ktL at this ⊢
        rw [List.length_cons, List.range_succ_eq_map, List.map_cons, List.map_map, List.map_cons, zip7, ← this]
        rfl
theorem kn_len (f : Nat → Int) (n m p : Nat) (hf : ∀ j, j < n → 0 ≤ f j) (h : (knGo f n m p).e = 0) : (knGo f n m p).X.length = m ∧ (knGo f n m p).Y.length = m ∧ (knGo f n m p).G.length = m := by
  unfold knGo at h ⊢
  by_cases h1 : (flGo f n m m p).e ≠ 0
  · rw [if_pos h1] at h; exact absurd h h1
  · rw [if_neg h1] at h ⊢
    have hl := fl_len f n hf m m p (Nat.le_refl _) (Decidable.not_not.1 h1)
    by_cases h2 : (plGo f n 2 16 (flGo f n m m p).L 0 (flGo f n m m p).p).e ≠ 0
    · rw [if_pos h2] at h; exact absurd h h2
    · rw [if_neg h2] at h ⊢
      have hx := pl_len f n 2 16 _ _ _ (Decidable.not_not.1 h2)
      by_cases h3 : (plGo f n 4 32 (flGo f n m m p).L 0 (plGo f n 2 16 (flGo f n m m p).L 0 (flGo f n m m p).p).p).e ≠ 0
      · rw [if_pos h3] at h; exact absurd h h3
      · rw [if_neg h3]
        have hy := pl_len f n 4 32 _ _ _ (Decidable.not_not.1 h3)
        exact ⟨hx.trans hl, hy.trans hl, hl⟩
theorem OwnO.keepB {w w' : World} {base : Nat} {v : Value} {LL : List (List Kt)} (h : OwnO w base v LL) (hk : ∀ b, base ≤ b → b < w.heap.size → w'.heap[b]? = w.heap[b]?) : OwnO w' base v LL := by
  obtain ⟨hs, hl, ho, hK⟩ := h
  exact ⟨hs, hl, ho.keep hk, fun j x L h1 h2 => (hK j x L h1 h2).keep hk⟩
theorem Row.but {w w' : World} {q b n : Nat} {F : Nat → Value} (h : Row w b n F) (k : KeepBut q w w') (hb : b ≠ q) : Row w' b n F := by
  have e := k.2 b h.2.2 hb
  refine ⟨fun j hj => ?_, fun j => ?_, Nat.lt_of_lt_of_le h.2.2 k.1⟩
  · rw [← h.1 j hj]; simp only [World.cell?, e]
  · rw [← h.2.1 j]; simp only [World.frozen?, e]
theorem Nw.but {w w' : World} {q B n : Nat} {A : Option Addr} {V : Nat → Value} (h : Nw w B A n V) (k : KeepBut q w w') (hq : q < B) : Nw w' B A n V := fun hn => by
  obtain ⟨g, rfl, hg, hr⟩ := h hn
  exact ⟨g, rfl, hg, hr.but k (by omega)⟩
/-- The outline that is read. -/
def lay7 (T : An7) : List (List Kt) := cutE7 0 T.E (zip7 Kt.mk T.X T.Y (T.G.map (fun g => decide (Has8 g 1))))
/-- What 'Read' leaves. -/
def RdPost7 (f : Nat → Int) (n : Nat) (w : World) (e : Ending) (w' : World) : Prop := ∃ A1 c1 A2 c2, e = .returned (.tuple #[.agg #[.slice A1 (lay7 (rdAns7 f n)).length c1, .slice A2 (rdAns7 f n).m c2], .int .i64 (rdAns7 f n).e]) ∧ RdOL w' w'.heap.size A1 (lay7 (rdAns7 f n)) ∧ (rdAns7 f n).m ≤ c2 ∧ Nw w' w.heap.size A2 (rdAns7 f n).m (U8 (fun j => f ((rdAns7 f n).s + j))) ∧ Since w w'
theorem rdpost7_no {f : Nat → Int} {n : Nat} {w w' : World} {x : Int} (h : rdAns7 f n = no7 x) (hS : Since w w') : RdPost7 f n w (.returned (.tuple #[.agg #[.slice none 0 0, .slice none 0 0], .int .i64 x])) w' := by
  unfold RdPost7
  rw [h]
  exact ⟨none, 0, none, 0, rfl, ⟨[], rfl, RdG.nil, fun j h L h1 h2 => by simp at h1⟩, Nat.le_refl _, Nw.zero, hS⟩
set_option maxRecDepth 1000000 in
set_option maxHeartbeats 32000000 in
theorem si_read (A : Option Addr) (n c : Nat) (f : Nat → Int) (w : World) (h : Rd w w.heap.size A n (U8 f)) (hf : ∀ j, j < n → 0 ≤ f j ∧ f j ≤ 255) (hn : n ≤ 140737488355328) (hnc : n ≤ c) :
    Calls Try.prog 41 #[.slice A n c] w (RdPost7 f n w) := by
  have hnI : (n : Int) ≤ 140737488355328 := by omega
  by_cases h0 : n = 0
  · have E := Lib.hid (show rdAns7 f n = no7 0 by unfold rdAns7; rw [if_pos h0])
    have d0 : (n : Int) = 0 := by omega
    clear h
    go_enter Try.func41, Try.ntmps41
    go_wp2_with fail
    refine bodyPost_ret (by simp only [results, Try.results41]; go_simp) rfl (rdpost7_no E.out (by (repeat (first | with_reducible (exact Since.refl _) | with_reducible assumption | with_reducible (refine Since.drew ?_) | with_reducible (refine Since.drewN ?_ _) | with_reducible (refine Since.alloc ?_ _) | (with_reducible (refine Since.setCell ?_ ?_ _); rotate_left; focus (first | (simp; done) | (simp; omega) | omega)) | (with_reducible (refine Since.trans ?_ (by with_reducible assumption)))))))
  have d0 : ¬ (n : Int) = 0 := by omega
  by_cases h10 : n < 10
  · have E := Lib.hid (show rdAns7 f n = no7 3 by unfold rdAns7; rw [if_neg h0, if_pos h10])
    have d1 : (n : Int) < 10 := by omega
    clear h
    go_enter Try.func41, Try.ntmps41
    go_wp2_with fail
    refine bodyPost_ret (by simp only [results, Try.results41]; go_simp) rfl (rdpost7_no E.out (by (repeat (first | with_reducible (exact Since.refl _) | with_reducible assumption | with_reducible (refine Since.drew ?_) | with_reducible (refine Since.drewN ?_ _) | with_reducible (refine Since.alloc ?_ _) | (with_reducible (refine Since.setCell ?_ ?_ _); rotate_left; focus (first | (simp; done) | (simp; omega) | omega)) | (with_reducible (refine Since.trans ?_ (by with_reducible assumption)))))))
  have d1 : ¬ (n : Int) < 10 := by omega
  have HF := Lib.hid hf
  have HS := Lib.hid (fun (w2 : World) (h2 : Since w w2) => s_in A n c f 0 2 0 2 w2 (h.on h2) hf rfl rfl (by omega) (by omega) hn)
  have e0 : sgn 2 (numAt f 0 2) = s2 f 0 := rfl
  rw [e0] at HS
  have hr := numAt_range (f := f) (p := 0) (k := 2) (fun j hj => hf j (by omega))
  have hsr : -32768 ≤ s2 f 0 ∧ s2 f 0 ≤ 32767 := by
    rw [← e0]; unfold sgn; simp only [Int.reducePow] at hr ⊢; split <;> omega
  have E0 : rdAns7 f n = if s2 f 0 < 0 then no7 11 else if s2 f 0 = 0 then no7 0 else rdA7 f n (s2 f 0).toNat := by unfold rdAns7; rw [if_neg h0, if_neg h10]
  clear e0 hr hf
  by_cases hk1 : s2 f 0 < 0
  · rw [if_pos hk1] at E0
    have E := Lib.hid E0
    generalize s2 f 0 = k at *
    clear E0 h
    go_enter Try.func41, Try.ntmps41
    go_wp2_with (go_at_call 53; (with_reducible refine (HS.out _ (by (repeat (first | with_reducible (exact Since.refl _) | with_reducible assumption | with_reducible (refine Since.drew ?_) | with_reducible (refine Since.drewN ?_ _) | with_reducible (refine Since.alloc ?_ _) | (with_reducible (refine Since.setCell ?_ ?_ _); rotate_left; focus (first | (simp; done) | (simp; omega) | omega)) | (with_reducible (refine Since.trans ?_ (by with_reducible assumption))))))).mono ?_); rintro e w1 ⟨rfl, rfl⟩)
    refine bodyPost_ret (by simp only [results, Try.results41]; go_simp) rfl (rdpost7_no E.out (by (repeat (first | with_reducible (exact Since.refl _) | with_reducible assumption | with_reducible (refine Since.drew ?_) | with_reducible (refine Since.drewN ?_ _) | with_reducible (refine Since.alloc ?_ _) | (with_reducible (refine Since.setCell ?_ ?_ _); rotate_left; focus (first | (simp; done) | (simp; omega) | omega)) | (with_reducible (refine Since.trans ?_ (by with_reducible assumption)))))))
  rw [if_neg hk1] at E0
  by_cases hk2 : s2 f 0 = 0
  · rw [if_pos hk2] at E0
    have E := Lib.hid E0
    rw [hk2] at HS
    clear E0 h hk1 hk2 hsr
    go_enter Try.func41, Try.ntmps41
    go_wp2_with (go_at_call 53; (with_reducible refine (HS.out _ (by (repeat (first | with_reducible (exact Since.refl _) | with_reducible assumption | with_reducible (refine Since.drew ?_) | with_reducible (refine Since.drewN ?_ _) | with_reducible (refine Since.alloc ?_ _) | (with_reducible (refine Since.setCell ?_ ?_ _); rotate_left; focus (first | (simp; done) | (simp; omega) | omega)) | (with_reducible (refine Since.trans ?_ (by with_reducible assumption))))))).mono ?_); rintro e w1 ⟨rfl, rfl⟩)
    refine bodyPost_ret (by simp only [results, Try.results41]; go_simp) rfl (rdpost7_no E.out (by (repeat (first | with_reducible (exact Since.refl _) | with_reducible assumption | with_reducible (refine Since.drew ?_) | with_reducible (refine Since.drewN ?_ _) | with_reducible (refine Since.alloc ?_ _) | (with_reducible (refine Since.setCell ?_ ?_ _); rotate_left; focus (first | (simp; done) | (simp; omega) | omega)) | (with_reducible (refine Since.trans ?_ (by with_reducible assumption)))))))
  rw [if_neg hk2] at E0
  obtain ⟨k, hk⟩ : ∃ k : Nat, s2 f 0 = k := ⟨(s2 f 0).toNat, by omega⟩
  rw [hk] at HS E0 hsr
  rw [Int.toNat_natCast] at E0
  have hk0 : 1 ≤ k := by omega
  have hk9 : k ≤ 32767 := by omega
  have hkI : (k : Int) ≤ 32767 := by omega
  have hkz : ¬ (k : Int) = 0 := by omega
  clear hk1 hk2 hk hsr
  by_cases hee : endsE f n k = 0
  · obtain ⟨eB, hfit, hord, hlast⟩ := rdA7_o hee
    rw [eB] at E0
    have hrange : ∀ i, i < k → 0 ≤ en7 f i ∧ en7 f i ≤ 65535 := fun i hi => by
      have := numAt_range (f := f) (p := 10 + 2 * i) (k := 2) (fun j hj => HF.out j (by omega))
      unfold en7; simp only [Int.reducePow] at this; omega
    have hr0 := hrange (k - 1) (by omega)
    obtain ⟨m, hm⟩ : ∃ m : Nat, en7 f (k - 1) + 1 = m := ⟨(en7 f (k - 1) + 1).toNat, by omega⟩
    have hm4 : m ≤ 4096 := by omega
    have hm1 : 1 ≤ m := by omega
    rw [hm, Int.toNat_natCast] at E0
    have hbetw : ∀ d j, j + d = k - 1 → en7 f j + d ≤ en7 f (k - 1) := by
      intro d
      induction d with
      | zero => intro j hj; rw [show j = k - 1 by omega]; simp
      | succ d ih =>
        intro j hj
        have h1 := ih (j + 1) (by omega)
        have h2 := hord (j + 1) (by omega) (by omega)
        rw [Nat.add_sub_cancel] at h2
        omega
    have hseg : ∀ j, j < k → 0 ≤ st7 (en7 f) j ∧ st7 (en7 f) j ≤ en7 f j ∧ en7 f j + 1 ≤ (m : Int) := fun j hj => by
      have h1 := hbetw (k - 1 - j) j (by omega)
      have h2 := hrange j hj
      unfold st7
      by_cases hj0 : j = 0
      · rw [if_pos hj0]; omega
      · rw [if_neg hj0]
        have h3 := hord j hj (by omega)
        have h4 := hrange (j - 1) (by omega)
        omega
    have HE := Lib.hid (fun (w2 : World) (h2 : Since w w2) => si_ends_ok A n c f k w2 (h.on h2) HF.out hn hk0 hk9 hee)
    have m1 : IntKind.i64.wrap (2 * (k : Int)) = 2 * (k : Int) := by rw [IntKind.wrap_i64]; omega
    have m2 : IntKind.i64.wrap (10 + 2 * (k : Int)) = 10 + 2 * (k : Int) := by rw [IntKind.wrap_i64]; omega
    by_cases h12 : n < 12 + 2 * k
    · have E := Lib.hid (show rdAns7 f n = no7 3 by rw [E0]; unfold rdB7; rw [if_pos h12])
      have HU := Lib.hid (fun (w2 : World) (h2 : Since w w2) => u_out A n c f (10 + 2 * k) 2 (10 + 2 * (k : Int)) 2 w2 (h.on h2) HF.out (by omega) rfl (by omega) (by omega) (by omega) hn)
      clear E0 h hseg hbetw hrange hord hee eB hr0 hm
      go_enter Try.func41, Try.ntmps41
      go_wp2_with (first | (go_at_call 53; (with_reducible refine (HS.out _ (by (repeat (first | with_reducible (exact Since.refl _) | with_reducible assumption | with_reducible (refine Since.drew ?_) | with_reducible (refine Since.drewN ?_ _) | with_reducible (refine Since.alloc ?_ _) | (with_reducible (refine Since.setCell ?_ ?_ _); rotate_left; focus (first | (simp; done) | (simp; omega) | omega)) | (with_reducible (refine Since.trans ?_ (by with_reducible assumption))))))).mono ?_); rintro e w1 ⟨rfl, rfl⟩; have hT1 := two_new w w.heap.size rfl (.slice none 0 0) (.slice none 0 0) 51; have hA1 : Since w (w.alloc (.cells #[.slice none 0 0, .slice none 0 0] 51)) := (Since.refl w).alloc _) | (go_at_call 54; (with_reducible refine (HE.out _ hA1).mono ?_); rintro e w2 ⟨be, rfl, hE2, hS2⟩; have hT2 := hT1.since hS2; have hA2 := hA1.trans hS2; obtain ⟨p1, p2, p3, p4, p5⟩ := id hT2; clear hT1; have hl2 : w2.cell? ⟨be, k - 1, none⟩ = some (.int .i64 (en7 f (k - 1))) := (by obtain ⟨b', o', e', _, hc'⟩ := hE2 (by omega); injection e' with e'; injection e' with e1 e2; subst e1 e2; have hx := hc' (k - 1) (by omega); simpa [I64, IntRow] using hx); have hz2 : be < w2.heap.size := (by obtain ⟨b', o', e', hb', _⟩ := hE2 (by omega); injection e' with e'; injection e' with e1 e2; subst e1; exact hb')) | (go_at_call 55; (with_reducible refine (HU.out _ hA2).mono ?_); rintro e w3 ⟨rfl, hw3⟩; have hw4 := hw3.symm; subst hw4; clear hw3))
      refine bodyPost_ret (by simp only [results, Try.results41]; go_simp) rfl (rdpost7_no E.out (by (repeat (first | with_reducible (exact Since.refl _) | with_reducible assumption | with_reducible (refine Since.drew ?_) | with_reducible (refine Since.drewN ?_ _) | with_reducible (refine Since.alloc ?_ _) | (with_reducible (refine Since.setCell ?_ ?_ _); rotate_left; focus (first | (simp; done) | (simp; omega) | omega)) | (with_reducible (refine Since.trans ?_ (by with_reducible assumption)))))))
    have HU := Lib.hid (fun (w2 : World) (h2 : Since w w2) => u_in A n c f (10 + 2 * k) 2 (10 + 2 * (k : Int)) 2 w2 (h.on h2) HF.out (by omega) rfl (by omega) (by omega) hn)
    have hsz := numAt_range (f := f) (p := 10 + 2 * k) (k := 2) (fun j hj => HF.out j (by omega))
    simp only [Int.reducePow] at hsz
    obtain ⟨z, hz⟩ : ∃ z : Nat, numAt f (10 + 2 * k) 2 = z := ⟨(numAt f (10 + 2 * k) 2).toNat, by omega⟩
    rw [hz] at HU hsz
    have hzI : (z : Int) ≤ 65535 := by omega
    have m3 : IntKind.i64.wrap (10 + 2 * (k : Int) + 2) = 10 + 2 * (k : Int) + 2 := by rw [IntKind.wrap_i64]; omega
    have E1 : rdAns7 f n = if (n : Int) < 12 + 2 * k + z then no7 3 else if (knGo f n m (12 + 2 * k + z)).e ≠ 0 then no7 (knGo f n m (12 + 2 * k + z)).e else ⟨0, (List.range k).map (en7 f), 12 + 2 * k, z, (knGo f n m (12 + 2 * k + z)).G, (knGo f n m (12 + 2 * k + z)).X, (knGo f n m (12 + 2 * k + z)).Y⟩ := by
      rw [E0]; unfold rdB7; rw [if_neg h12, hz, Int.toNat_natCast]
    clear E0
    by_cases hcz : (n : Int) < 12 + 2 * k + z
    · have E := Lib.hid (show rdAns7 f n = no7 3 by rw [E1, if_pos hcz])
      have HC := Lib.hid (fun (w2 : World) (h2 : Since w w2) => cut_l_no A n c f (12 + 2 * k) z (10 + 2 * (k : Int) + 2) (z : Int) w2 (h.on h2) (by omega) rfl (by omega) (by omega) (by omega) hn hnc)
      clear E1 h hseg hbetw hrange hord hee eB hr0 hz hm
      go_enter Try.func41, Try.ntmps41
      go_wp2_with (first | (go_at_call 53; (with_reducible refine (HS.out _ (by (repeat (first | with_reducible (exact Since.refl _) | with_reducible assumption | with_reducible (refine Since.drew ?_) | with_reducible (refine Since.drewN ?_ _) | with_reducible (refine Since.alloc ?_ _) | (with_reducible (refine Since.setCell ?_ ?_ _); rotate_left; focus (first | (simp; done) | (simp; omega) | omega)) | (with_reducible (refine Since.trans ?_ (by with_reducible assumption))))))).mono ?_); rintro e w1 ⟨rfl, rfl⟩; have hT1 := two_new w w.heap.size rfl (.slice none 0 0) (.slice none 0 0) 51; have hA1 : Since w (w.alloc (.cells #[.slice none 0 0, .slice none 0 0] 51)) := (Since.refl w).alloc _) | (go_at_call 54; (with_reducible refine (HE.out _ hA1).mono ?_); rintro e w2 ⟨be, rfl, hE2, hS2⟩; have hT2 := hT1.since hS2; have hA2 := hA1.trans hS2; obtain ⟨p1, p2, p3, p4, p5⟩ := id hT2; clear hT1; have hl2 : w2.cell? ⟨be, k - 1, none⟩ = some (.int .i64 (en7 f (k - 1))) := (by obtain ⟨b', o', e', _, hc'⟩ := hE2 (by omega); injection e' with e'; injection e' with e1 e2; subst e1 e2; have hx := hc' (k - 1) (by omega); simpa [I64, IntRow] using hx); have hz2 : be < w2.heap.size := (by obtain ⟨b', o', e', hb', _⟩ := hE2 (by omega); injection e' with e'; injection e' with e1 e2; subst e1; exact hb')) | (go_at_call 55; (with_reducible refine (HU.out _ hA2).mono ?_); rintro e w3 ⟨rfl, hw3⟩; have hw4 := hw3.symm; subst hw4; clear hw3) | (go_at_call 56; (with_reducible refine (HC.out _ hA2).mono ?_); rintro e w5 ⟨A5, c5, rfl, hS5⟩; have hT5 := hT2.since hS5; have hA5 := hA2.trans hS5; obtain ⟨r1, r2, r3, r4, r5⟩ := id hT5))
      refine bodyPost_ret (by simp only [results, Try.results41]; go_simp) rfl (rdpost7_no E.out (by (repeat (first | with_reducible (exact Since.refl _) | with_reducible assumption | with_reducible (refine Since.drew ?_) | with_reducible (refine Since.drewN ?_ _) | with_reducible (refine Since.alloc ?_ _) | (with_reducible (refine Since.setCell ?_ ?_ _); rotate_left; focus (first | (simp; done) | (simp; omega) | omega)) | (with_reducible (refine Since.trans ?_ (by with_reducible assumption)))))))
    rw [if_neg hcz] at E1
    have HC := Lib.hid (fun (w2 : World) (h2 : Since w w2) => cut_l A n c f (12 + 2 * k) z (10 + 2 * (k : Int) + 2) (z : Int) w2 (h.on h2) (by omega) rfl (by omega) hn hnc)
    have m4 : IntKind.i64.wrap (10 + 2 * (k : Int) + 2 + (z : Int)) = 10 + 2 * (k : Int) + 2 + (z : Int) := by rw [IntKind.wrap_i64]; omega
    have m5 : IntKind.i64.wrap ((k : Int) - 1) = ((k - 1 : Nat) : Int) := by rw [IntKind.wrap_i64]; omega
    have m6 : IntKind.i64.wrap (en7 f (k - 1) + 1) = (m : Int) := by rw [IntKind.wrap_i64]; omega
    have hk1 : k - 1 < k := by omega
    by_cases hke : (knGo f n m (12 + 2 * k + z)).e = 0
    · rw [if_neg (by simp [hke])] at E1
      obtain ⟨l1, l2, l3⟩ := kn_len f n m (12 + 2 * k + z) (fun j hj => (HF.out j hj).1) hke
      have HKN := Lib.hid (fun (w2 : World) (h2 : Since w w2) => si_knots_ok A n c f (12 + 2 * k + z) m (m : Int) w2 (h.on h2) HF.out rfl (10 + 2 * (k : Int) + 2 + (z : Int)) (by omega) (by omega) hn hm4 hke)
      have E := Lib.hid (show rdAns7 f n = ⟨0, (List.range k).map (en7 f), 12 + 2 * k, z, (knGo f n m (12 + 2 * k + z)).G, (knGo f n m (12 + 2 * k + z)).X, (knGo f n m (12 + 2 * k + z)).Y⟩ from E1)
      obtain ⟨K, hK⟩ : ∃ K, K = ktL m (fnL (knGo f n m (12 + 2 * k + z)).X) (fnL (knGo f n m (12 + 2 * k + z)).Y) (fun j => decide (Has8 (fnL (knGo f n m (12 + 2 * k + z)).G j) 1)) := ⟨_, rfl⟩
      have hKl : K.length = m := by rw [hK, ktL_len]
      rw [← hK] at HKN
      have EL := Lib.hid (show lay7 (rdAns7 f n) = (List.range k).map (seg7 (en7 f) K) by
        rw [E1]; unfold lay7; simp only
        have hzk := zip7_kt (knGo f n m (12 + 2 * k + z)).X (knGo f n m (12 + 2 * k + z)).Y (knGo f n m (12 + 2 * k + z)).G (by rw [l1, l2]) (by rw [l1, l3])
        rw [l1] at hzk
        rw [← hzk, ← hK, cutE7_all2])
      have HD := Lib.hid (fun (bk be : Nat) (w2 : World) (h2 : Since w w2) (h3 : RdKl w2 w2.heap.size (some ⟨bk, 0, none⟩) K) (h4 : Rd w2 w2.heap.size (some ⟨be, 0, none⟩) k (I64 (en7 f))) => si_divide (some ⟨bk, 0, none⟩) m m K (some ⟨be, 0, none⟩) k k (en7 f) w2 h3 hKl.symm (Nat.le_refl _) h4 hk9 (by omega) (fun j hj => by rw [hKl]; exact hseg j hj))
      clear E1 h hseg hbetw hrange hord hee eB hr0 hz hm hK l1 l2 l3 hke hKl
      go_enter Try.func41, Try.ntmps41
      go_wp2_with (first | (go_at_call 53; (with_reducible refine (HS.out _ (by (repeat (first | with_reducible (exact Since.refl _) | with_reducible assumption | with_reducible (refine Since.drew ?_) | with_reducible (refine Since.drewN ?_ _) | with_reducible (refine Since.alloc ?_ _) | (with_reducible (refine Since.setCell ?_ ?_ _); rotate_left; focus (first | (simp; done) | (simp; omega) | omega)) | (with_reducible (refine Since.trans ?_ (by with_reducible assumption))))))).mono ?_); rintro e w1 ⟨rfl, rfl⟩; have hT1 := two_new w w.heap.size rfl (.slice none 0 0) (.slice none 0 0) 51; have hA1 : Since w (w.alloc (.cells #[.slice none 0 0, .slice none 0 0] 51)) := (Since.refl w).alloc _) | (go_at_call 54; (with_reducible refine (HE.out _ hA1).mono ?_); rintro e w2 ⟨be, rfl, hE2, hS2⟩; have hT2 := hT1.since hS2; have hA2 := hA1.trans hS2; obtain ⟨p1, p2, p3, p4, p5⟩ := id hT2; clear hT1; have hl2 : w2.cell? ⟨be, k - 1, none⟩ = some (.int .i64 (en7 f (k - 1))) := (by obtain ⟨b', o', e', _, hc'⟩ := hE2 (by omega); injection e' with e'; injection e' with e1 e2; subst e1 e2; have hx := hc' (k - 1) (by omega); simpa [I64, IntRow] using hx); have hz2 : be < w2.heap.size := (by obtain ⟨b', o', e', hb', _⟩ := hE2 (by omega); injection e' with e'; injection e' with e1 e2; subst e1; exact hb')) | (go_at_call 55; (with_reducible refine (HU.out _ hA2).mono ?_); rintro e w3 ⟨rfl, hw3⟩; have hw4 := hw3.symm; subst hw4; clear hw3) | (go_at_call 56; (with_reducible refine (HC.out _ hA2).mono ?_); rintro e w5 ⟨A5, c5, rfl, hc5, hN5, hS5⟩; have hT5 := hT2.since hS5; have hA5 := hA2.trans hS5; obtain ⟨r1, r2, r3, r4, r5⟩ := id hT5; have hE5 := hE2.on hS5; have hl5 := (hS5.1 _ _ hz2).trans hl2; clear hT2 hE2) | (go_at_call 57; (with_reducible refine (HKN.out _ hA5).mono ?_); rintro e w6 ⟨bk, rfl, hK6, hS6⟩; have hT6 := hT5.since hS6; have hA6 := hA5.trans hS6; have hE6 := hE5.on hS6; have hN6 := (hN5.low (Nat.succ_le_of_lt p5)).since hS6; clear hT5 hE5) | (go_at_call 58; (with_reducible refine (HD.out _ _ _ hA6 hK6 hE6).mono ?_); rintro e w7 ⟨v, rfl, hO7, hS7⟩; have hT7 := hT6.since hS7; have hA7 := hA6.trans hS7; have hN7 := hN6.since hS7; obtain ⟨s1, s2, s3, s4, s5⟩ := id hT7; obtain ⟨A7, c7, rfl, hc7, hR7⟩ := hO7.rd; clear hT6))
      have hkb : KeepBut w.heap.size w7 ((w7.setCell ⟨w.heap.size, 0, none⟩ (.slice A7 k c7)).setCell ⟨w.heap.size, 1, none⟩ (.slice A5 z c5)) := ((KeepBut.refl _ w7).set 0 _).set 1 _
      have hz6 : w.heap.size < w6.heap.size := Nat.lt_of_lt_of_le r5 hS6.below.size
      have hR8 := (hO7.keepB (fun b hb hb2 => hkb.2 b hb2 (by omega))).rd
      obtain ⟨A8, c8, e8, hc8, hR8⟩ := hR8
      injection e8 with e81 e82 e83
      subst e81
      refine bodyPost_ret (by simp only [results, Try.results41]; go_simp) rfl (?_ : RdPost7 f n w (.returned (.tuple #[.agg #[.slice A7 k c7, .slice A5 z c5], .int .i64 0])) _)
      unfold RdPost7
      rw [EL.out, E.out]
      exact ⟨A7, c7, A5, c5, by simp, hR8, hc5, (hN7.but hkb (by omega)).low (by omega), (hA7.setCell (Nat.le_refl _) _).setCell (Nat.le_refl _) _⟩
    · rw [if_pos hke] at E1
      have E := Lib.hid E1
      have HKN := Lib.hid (fun (w2 : World) (h2 : Since w w2) => si_knots_no A n c f (12 + 2 * k + z) m (m : Int) _ w2 (h.on h2) HF.out rfl (10 + 2 * (k : Int) + 2 + (z : Int)) (by omega) (by omega) hn hm4 rfl hke)
      generalize (knGo f n m (12 + 2 * k + z)).e = x at *
      have dx : (x == 0) = false := by simpa using hke
      clear E1 h hseg hbetw hrange hord hee eB hr0 hz hm
      go_enter Try.func41, Try.ntmps41
      go_wp2_with (first | (go_at_call 53; (with_reducible refine (HS.out _ (by (repeat (first | with_reducible (exact Since.refl _) | with_reducible assumption | with_reducible (refine Since.drew ?_) | with_reducible (refine Since.drewN ?_ _) | with_reducible (refine Since.alloc ?_ _) | (with_reducible (refine Since.setCell ?_ ?_ _); rotate_left; focus (first | (simp; done) | (simp; omega) | omega)) | (with_reducible (refine Since.trans ?_ (by with_reducible assumption))))))).mono ?_); rintro e w1 ⟨rfl, rfl⟩; have hT1 := two_new w w.heap.size rfl (.slice none 0 0) (.slice none 0 0) 51; have hA1 : Since w (w.alloc (.cells #[.slice none 0 0, .slice none 0 0] 51)) := (Since.refl w).alloc _) | (go_at_call 54; (with_reducible refine (HE.out _ hA1).mono ?_); rintro e w2 ⟨be, rfl, hE2, hS2⟩; have hT2 := hT1.since hS2; have hA2 := hA1.trans hS2; obtain ⟨p1, p2, p3, p4, p5⟩ := id hT2; clear hT1; have hl2 : w2.cell? ⟨be, k - 1, none⟩ = some (.int .i64 (en7 f (k - 1))) := (by obtain ⟨b', o', e', _, hc'⟩ := hE2 (by omega); injection e' with e'; injection e' with e1 e2; subst e1 e2; have hx := hc' (k - 1) (by omega); simpa [I64, IntRow] using hx); have hz2 : be < w2.heap.size := (by obtain ⟨b', o', e', hb', _⟩ := hE2 (by omega); injection e' with e'; injection e' with e1 e2; subst e1; exact hb')) | (go_at_call 55; (with_reducible refine (HU.out _ hA2).mono ?_); rintro e w3 ⟨rfl, hw3⟩; have hw4 := hw3.symm; subst hw4; clear hw3) | (go_at_call 56; (with_reducible refine (HC.out _ hA2).mono ?_); rintro e w5 ⟨A5, c5, rfl, hc5, hN5, hS5⟩; have hT5 := hT2.since hS5; have hA5 := hA2.trans hS5; obtain ⟨r1, r2, r3, r4, r5⟩ := id hT5; have hE5 := hE2.on hS5; have hl5 := (hS5.1 _ _ hz2).trans hl2; clear hT2 hE2) | (go_at_call 57; (with_reducible refine (HKN.out _ hA5).mono ?_); rintro e w6 ⟨rfl, hS6⟩; have hT6 := hT5.since hS6; have hA6 := hA5.trans hS6; obtain ⟨s1, s2, s3, s4, s5⟩ := id hT6))
      refine bodyPost_ret (by simp only [results, Try.results41]; go_simp) rfl (rdpost7_no E.out (by (repeat (first | with_reducible (exact Since.refl _) | with_reducible assumption | with_reducible (refine Since.drew ?_) | with_reducible (refine Since.drewN ?_ _) | with_reducible (refine Since.alloc ?_ _) | (with_reducible (refine Since.setCell ?_ ?_ _); rotate_left; focus (first | (simp; done) | (simp; omega) | omega)) | (with_reducible (refine Since.trans ?_ (by with_reducible assumption)))))))
  · have E := Lib.hid (show rdAns7 f n = no7 (endsE f n k) by rw [E0, rdA7_e hee])
    have HE := Lib.hid (fun (w2 : World) (h2 : Since w w2) => si_ends_no A n c f k w2 (h.on h2) HF.out hn hk0 hk9 _ rfl hee)
    generalize endsE f n k = x at *
    have dx : (x == 0) = false := by simpa using hee
    clear E0 h
    go_enter Try.func41, Try.ntmps41
    go_wp2_with (first | (go_at_call 53; (with_reducible refine (HS.out _ (by (repeat (first | with_reducible (exact Since.refl _) | with_reducible assumption | with_reducible (refine Since.drew ?_) | with_reducible (refine Since.drewN ?_ _) | with_reducible (refine Since.alloc ?_ _) | (with_reducible (refine Since.setCell ?_ ?_ _); rotate_left; focus (first | (simp; done) | (simp; omega) | omega)) | (with_reducible (refine Since.trans ?_ (by with_reducible assumption))))))).mono ?_); rintro e w1 ⟨rfl, rfl⟩; have hT1 := two_new w w.heap.size rfl (.slice none 0 0) (.slice none 0 0) 51; have hA1 : Since w (w.alloc (.cells #[.slice none 0 0, .slice none 0 0] 51)) := (Since.refl w).alloc _) | (go_at_call 54; (with_reducible refine (HE.out _ hA1).mono ?_); rintro e w2 ⟨rfl, hS2⟩; have hT2 := hT1.since hS2; have hA2 := hA1.trans hS2; obtain ⟨p1, p2, p3, p4, p5⟩ := hT2))
    refine bodyPost_ret (by simp only [results, Try.results41]; go_simp) rfl (rdpost7_no E.out (by (repeat (first | with_reducible (exact Since.refl _) | with_reducible assumption | with_reducible (refine Since.drew ?_) | with_reducible (refine Since.drewN ?_ _) | with_reducible (refine Since.alloc ?_ _) | (with_reducible (refine Since.setCell ?_ ?_ _); rotate_left; focus (first | (simp; done) | (simp; omega) | omega)) | (with_reducible (refine Since.trans ?_ (by with_reducible assumption)))))))
end Go.Proofs.Ytcjjcjpkmjbfkaa
