/-
  Layer 8: the laws CompoBack, CompoCut, CompoAgain, walked; parts that came in.
-/
import Derived.Test.YtbjjndficllogaaCoN
import Derived.Test.YtbjjndficllogaaKit9
import Derived.Test.YtbjjndficllogaaKit4
namespace Go.Proofs.Ytbjjndficllogaa
open Go.RowKit Go.ChangeShapes Go.WideShapes Go.Deep
set_option linter.unusedVariables false
set_option linter.unusedSimpArgs false
def num8 : Value → Int
  | .int _ a => a
  | _ => 0
section
variable {H : Type} {enc : TypeId × Value → H} {P : Program} {W : World}
theorem open_parts {t e t0 : TypeId} {r : Reach} {b0 : Nat} {v : Value} {d : DataW H} {ps : List MemPlace} (ht : P.underlying t = some (.slice e)) (ce : P.cellsOf e = 7) (hl : ∀ j, j < 7 → leafAt P 6 e j = some t0) (k0 : P.underlying t0 = some (.int .i64))
    (hval : Value.okWide P W r b0 t v) (h : DataW.Trod enc P W 0 (fun _ => true) true t v d ps) (hlt : ∀ x ∈ ps, x.block < W.heap.size) :
    ∃ (A : Option Addr) (n c : Nat) (L : List Pt8), v = .slice A n c ∧ n = L.length ∧ n ≤ c ∧ c ≤ maxLen ∧ RdP8 W W.heap.size A L := by
  obtain ⟨A, n, c, V, rfl, hnc, hcm, hr, hall, hz⟩ := open_flat ht ce (by omega) hval h hlt
  have each : ∀ i, i < n → ∀ j, j < 7 → V (i * 7 + j) = .int .i64 (num8 (V (i * 7 + j))) := fun i hi j hj => by
    obtain ⟨m, x, hx⟩ := hall i hi
    obtain ⟨u0, m0, y0, a1, a2, _⟩ := leaf_at 6 e t0 j (hl j hj) m _ x hx
    obtain ⟨p, ep, _, wp⟩ := DataW.trod_int k0 a2
    injection ep with ep
    rw [tab_get, if_pos (by omega)] at a1
    injection a1 with a1
    subst ep
    rw [a1]
    rfl
  refine ⟨A, n, c, (List.range n).map (fun i => ⟨num8 (V (i * 7)), num8 (V (i * 7 + 1)), num8 (V (i * 7 + 2)), num8 (V (i * 7 + 3)), num8 (V (i * 7 + 4)), num8 (V (i * 7 + 5)), num8 (V (i * 7 + 6))⟩), rfl, by simp, hnc, hcm, fun hn => ?_⟩
  obtain ⟨b, o, rfl, hb, hc⟩ := hr (by simp at hn; omega)
  refine ⟨b, o, rfl, hb, fun j s hj i hi => ?_⟩
  have hjn : j < n := by
    rcases Nat.lt_or_ge j n with h | h
    · exact h
    · rw [List.getElem?_eq_none (by simpa using h)] at hj; cases hj
  rw [List.getElem?_map, List.getElem?_range hjn] at hj
  injection hj with hj
  subst hj
  rw [Nat.add_assoc, hc (j * 7 + i) (by omega), each j hjn i hi]
  have h7 : i = 0 ∨ i = 1 ∨ i = 2 ∨ i = 3 ∨ i = 4 ∨ i = 5 ∨ i = 6 := by omega
  rcases h7 with rfl | rfl | rfl | rfl | rfl | rfl | rfl <;> rfl
end
theorem wrB_bytes (L : List Pt8) (c box : List Int) (hc : Bytes c) : Bytes (wrB8 L c box) := by
  have h2 : ∀ l : List Int, Bytes (nums8 l) := fun l v hv => by
    unfold nums8 at hv
    obtain ⟨x, _, hx⟩ := List.mem_flatMap.1 hv
    exact bytes_put x 2 v hx
  have h3 : ∀ (hc : Bool) (L : List Pt8), Bytes (parts8 hc L) := fun hc L => by
    induction L with
    | nil => intro v hv; cases hv
    | cons p r ih =>
      rw [parts8_cons]
      unfold part8
      exact bytes_app (bytes_app (bytes_put _ _) (bytes_app (bytes_put _ _) (bytes_app (bytes_put _ _) (bytes_app (bytes_put _ _) (h2 _))))) ih
  unfold wrB8
  refine bytes_app (bytes_put _ _) (bytes_app (h2 _) (bytes_app (h3 _ _) ?_))
  unfold code8
  split
  · intro v hv; cases hv
  · exact bytes_app (bytes_put _ _) hc
theorem wrB_len (L : List Pt8) (c box : List Int) (hb : box.length = 4) : (wrB8 L c box).length = 10 + (parts8 (!c.isEmpty) L).length + (code8 c).length := by
  unfold wrB8; simp only [List.length_append, putL_len, nums8_len, hb]; omega
theorem code8_le (c : List Int) : (code8 c).length ≤ 2 + c.length := by
  unfold code8; split <;> simp [putL_len]
theorem atL_fn (X Y : List Int) (n : Nat) (f : Nat → Int) (hf : ∀ j, j < X.length → f j = fnL (X ++ Y) j) : AtL f 0 X := fun j hj => by
  rw [Nat.zero_add, hf j hj]; unfold fnL
  rw [List.getD_eq_getElem?_getD, List.getElem?_append_left hj, List.getD_eq_getElem?_getD]
theorem write_no {L : List Pt8} {c box : List Int} {w : World} {e : Ending} {w' : World} (h : WrPost8 L c box w e w') (hE : wrE8 L c box ≠ 0) : ∃ A d, e = .returned (.tuple #[.slice A 0 d, .int .i64 (wrE8 L c box)]) ∧ Since w w' := by
  obtain ⟨v, rfl, hO, hS⟩ := h
  rw [wr_no hE] at hO
  obtain ⟨A, d, rfl, _, _⟩ := hO.rd (by omega) byL_len
  exact ⟨A, d, rfl, hS⟩
theorem wrE_bound (L : List Pt8) (c box : List Int) (h : wrE8 L c box = 0) : L.length ≤ 64 ∧ c.length ≤ 65535 ∧ L ≠ [] := by
  unfold wrE8 at h
  have h0 : L ≠ [] := fun e => by rw [if_pos e] at h; omega
  rw [if_neg h0] at h
  have h7 : ¬ (64 < L.length ∨ 65535 < c.length) := fun e => by rw [if_pos e] at h; omega
  exact ⟨by omega, by omega, h0⟩
theorem write_yes {L : List Pt8} {c box : List Int} {w : World} {e : Ending} {w' : World} (h : WrPost8 L c box w e w') (hE : wrE8 L c box = 0) : ∃ v, e = .returned (.tuple #[v, .int .i64 0]) ∧ OwnB w' w.heap.size v (wrB8 L c box) ∧ Since w w' := by
  obtain ⟨v, rfl, hO, hS⟩ := h
  rw [wr_yes hE] at hO
  exact ⟨v, by rw [hE], hO, hS⟩
/-- What is read of what was written. -/
theorem read_back (A : Option Addr) (n d : Nat) (L : List Pt8) (c box Y : List Int) (w : World) (hb : box.length = 4) (hE : wrE8 L c box = 0) (hn : n = (wrB8 L c box ++ Y).length) (h : RdB w w.heap.size A (wrB8 L c box ++ Y)) (hc : Bytes c) (hY : Bytes Y) (hnn : n ≤ 140737488355328) (hnd : n ≤ d) :
    Calls Try.prog 27 #[.slice A n d] w fun e w' => ∃ A1 c1 A2 c2, e = .returned (.tuple #[.slice A1 L.length c1, .slice A2 c.length c2, .int .i64 0]) ∧ RdP8 w' w'.heap.size A1 L ∧ RdB w' w'.heap.size A2 c ∧ Since w w' := by
  refine (read_l A n d _ w hn h (bytes_app (wrB_bytes L c box hc) hY) hnn hnd).mono ?_
  rintro e w' ⟨A1, c1, A2, c2, rfl, h1, h2, h3, hS⟩
  obtain ⟨r1, r2, r3, r4⟩ := (back8 (fnL (wrB8 L c box ++ Y)) n L c box hb hE (atL_fn _ Y n _ (fun _ _ => rfl))).1 (by rw [hn, List.length_append]; omega)
  rw [r2] at h1
  rw [r3] at h3
  refine ⟨A1, c1, A2, c2, by rw [r1, r2, r3], h1, rdb_of h3.rd rfl (fun j hj => ?_), hS⟩
  rw [r4 j hj]
  rfl
/-- The laws -/
theorem laws8 : True := trivial
set_option maxRecDepth 100000 in
set_option maxHeartbeats 8000000 in
theorem walk_compoback (A : Option Addr) (n c : Nat) (L : List Pt8) (B : Option Addr) (m d : Nat) (C : List Int) (D : Option Addr) (k q : Nat) (Y : List Int) (w : World) (h : RdP8 w w.heap.size A L) (hn : n = L.length) (hC : RdB w w.heap.size B C) (hm : m = C.length) (hD : RdB w w.heap.size D Y) (hk : k = Y.length) (hCb : Bytes C) (hYb : Bytes Y) (hnn : L.length ≤ maxLen) (hm9 : m ≤ 1125899906842624) (hk9 : k ≤ 1125899906842624) :
    Calls Try.prog 11 #[.slice A n c, .slice B m d, .slice D k q] w fun e w' => e = .returned (.bool true) ∧ Since w w' := by
  by_cases h7 : 70000 < m
  · have d1 : decide ((70000 : Int) < m) = true := by simp; omega
    clear h hC hD hn hm hk
    go_enter Try.func11, Try.ntmps11
    go_wp2_with (go_at_call 26; (with_reducible refine (alive08 _).mono ?_); rintro e w1 ⟨rfl, hS1⟩)
    go_ret
    exact ⟨by first | rfl | simp, hS1⟩
  have d1 : decide ((70000 : Int) < m) = false := by simp; omega
  by_cases h8 : 1000 < k
  · have d2 : decide ((1000 : Int) < k) = true := by simp; omega
    clear h hC hD hn hm hk
    go_enter Try.func11, Try.ntmps11
    go_wp2_with (go_at_call 26; (with_reducible refine (alive08 _).mono ?_); rintro e w1 ⟨rfl, hS1⟩)
    go_ret
    exact ⟨by first | rfl | simp, hS1⟩
  have d2 : decide ((1000 : Int) < k) = false := by simp; omega
  have hm7 : m ≤ 70000 := by omega
  have hk7 : k ≤ 1000 := by omega
  have HW := Lib.hid fun w1 (hS : Since w w1) => co_write8 A n c L B m d C 0 0 1 0 w1 (h.on hS) hn (hC.on hS) hm hnn (by omega)
  have H0 := Lib.hid h
  have HC := Lib.hid hC
  have HD := Lib.hid hD
  have HN := Lib.hid hn
  have HM := Lib.hid hm
  have HK := Lib.hid hk
  clear h hC hD hn hm hk
  by_cases hE : wrE8 L C [0, 0, 1, 0] = 0
  · obtain ⟨b1, b2, b3⟩ := wrE_bound _ _ _ hE
    have HE := Lib.hid hE
    have hXl : (wrB8 L C [0, 0, 1, 0]).length ≤ 10 + 16 * 64 + 2 + 65535 := by
      rw [wrB_len _ _ _ rfl]
      have e1 := parts8_le (!C.isEmpty) L
      have e2 := code8_le C
      omega
    have hXp : 10 ≤ (wrB8 L C [0, 0, 1, 0]).length := by rw [wrB_len _ _ _ rfl]; omega
    have hCl : C.length ≤ 65535 := b2
    have hYl : Y.length ≤ 1000 := by rw [← HK.out]; exact hk7
    have hLm : L.length ≤ maxLen := hnn
    clear hE b1 b2 b3
    go_enter Try.func11, Try.ntmps11
    go_wp2_with (first | (go_at_call 26; (with_reducible refine (alive08 _).mono ?_); rintro e w1 ⟨rfl, hS1⟩) | (go_at_call 30; (with_reducible refine (HW.out _ hS1).mono ?_); intro e w2 hp; obtain ⟨v2, rfl, hO2, hS2⟩ := write_yes hp HE.out; have hO2 := hO2.low (base' := w.heap.size) hS1.below.size; have hT2 := hS1.trans hS2; obtain ⟨A2, c2, rfl, hc2, _⟩ := hO2.rd (by omega) byL_len; clear hp hS2) | (at_builtin; refine wpList_append_b2 rfl _ _ rfl hT2 _ (wrB8 L C [0, 0, 1, 0]) rfl hO2 _ D k q Y HK.out rfl (HD.out.on hT2) (by omega) ?_; intro v3 w3 hO3 hS3 hgr3; obtain ⟨A3, c3, rfl, hc3, hR3⟩ := hO3.rd (by omega) byL_len; clear hgr3 hO2) | (go_at_call 27; (with_reducible refine (read_back A3 ((wrB8 L C [0, 0, 1, 0]).length + Y.length) c3 L C [0, 0, 1, 0] Y _ (by simp) HE.out List.length_append.symm hR3 hCb hYb (by omega) (by rw [← List.length_append]; exact hc3)).mono ?_); rintro e w4 ⟨A4, c4, A5, c5, rfl, hP4, hB4, hS4⟩; have hT4 := hS3.trans hS4) | (go_at_call 29; (with_reducible refine (rf_same8 A4 A _ n _ _ L _ hP4 (H0.out.on hT4) rfl HN.out hLm).mono ?_); rintro e w5 ⟨rfl, hS5⟩; have hT5 := hT4.trans hS5) | (go_at_call 19; (with_reducible refine (same_l A5 B _ m _ d C C _ rfl HM.out (hB4.on hS5) (HC.out.on hT5) rfl).mono ?_); rintro e w6 ⟨rfl, rfl⟩))
    go_ret
    exact ⟨by first | rfl | simp, hT5⟩
  · have HE := Lib.hid hE
    obtain ⟨E, hEE⟩ : ∃ E, E = wrE8 L C [0, 0, 1, 0] := ⟨_, rfl⟩
    have dE : (E != 0) = true := by rw [hEE]; simpa using hE
    have HEE := Lib.hid hEE
    clear hE hEE
    go_enter Try.func11, Try.ntmps11
    go_wp2_with (first | (go_at_call 26; (with_reducible refine (alive08 _).mono ?_); rintro e w1 ⟨rfl, hS1⟩) | (go_at_call 30; (with_reducible refine (HW.out _ hS1).mono ?_); intro e w2 hp; obtain ⟨A2, c2, rfl, hS2⟩ := write_no hp HE.out; rw [← HEE.out]; have hT2 := hS1.trans hS2; clear hp))
    go_ret
    exact ⟨by first | rfl | simp, hT2⟩
theorem read_cut (A : Option Addr) (k d : Nat) (L : List Pt8) (c box : List Int) (w : World) (hb : box.length = 4) (hE : wrE8 L c box = 0) (hk : k < (wrB8 L c box).length) (h : RdB w w.heap.size A (wrB8 L c box)) (hc : Bytes c) (hnn : k ≤ 140737488355328) (hnd : k ≤ d) :
    Calls Try.prog 27 #[.slice A k d] w fun e w' => ∃ A1 c1 A2 c2, e = .returned (.tuple #[.slice A1 0 c1, .slice A2 0 c2, .int .i64 3]) ∧ Since w w' := by
  refine (co_read A k d (fnL (wrB8 L c box)) w ((rdb_rd h).take (Nat.le_of_lt hk)) (fun j hj => bytes_fn (wrB_bytes L c box hc) j (by omega)) hnn hnd).mono ?_
  rintro e w' ⟨A1, c1, A2, c2, rfl, h1, h2, h3, hS⟩
  have hr := (back8 (fnL (wrB8 L c box)) k L c box hb hE (fun j hj => by rw [Nat.zero_add]; rfl)).2 hk
  rw [hr]
  exact ⟨A1, c1, A2, c2, rfl, hS⟩
set_option maxRecDepth 100000 in
set_option maxHeartbeats 8000000 in
theorem walk_compocut (A : Option Addr) (n c : Nat) (L : List Pt8) (B : Option Addr) (m d : Nat) (C : List Int) (a : Int) (w : World) (h : RdP8 w w.heap.size A L) (hn : n = L.length) (hC : RdB w w.heap.size B C) (hm : m = C.length) (hCb : Bytes C) (ha : 0 ≤ a ∧ a ≤ 65535) (hnn : L.length ≤ maxLen) (hm9 : m ≤ 1125899906842624) :
    Calls Try.prog 12 #[.slice A n c, .slice B m d, .int .u16 a] w fun e w' => e = .returned (.bool true) ∧ Since w w' := by
  by_cases h7 : 1000 < m
  · have d1 : decide ((1000 : Int) < m) = true := by simp; omega
    clear h hC hn hm
    go_enter Try.func12, Try.ntmps12
    go_wp2_with (go_at_call 26; (with_reducible refine (alive08 _).mono ?_); rintro e w1 ⟨rfl, hS1⟩)
    go_ret
    exact ⟨by first | rfl | simp, hS1⟩
  have d1 : decide ((1000 : Int) < m) = false := by simp; omega
  have hm7 : m ≤ 1000 := by omega
  have HW := Lib.hid fun w1 (hS : Since w w1) => co_write8 A n c L B m d C 0 0 0 0 w1 (h.on hS) hn (hC.on hS) hm hnn (by omega)
  clear h hC hn hm
  by_cases hE : wrE8 L C [0, 0, 0, 0] = 0
  · obtain ⟨b1, b2, b3⟩ := wrE_bound _ _ _ hE
    have HE := Lib.hid hE
    have hXl : (wrB8 L C [0, 0, 0, 0]).length ≤ 10 + 16 * 64 + 2 + 65535 := by
      rw [wrB_len _ _ _ rfl]
      have e1 := parts8_le (!C.isEmpty) L
      have e2 := code8_le C
      omega
    have hXp : 10 ≤ (wrB8 L C [0, 0, 0, 0]).length := by rw [wrB_len _ _ _ rfl]; omega
    obtain ⟨N, hN⟩ : ∃ N, N = (wrB8 L C [0, 0, 0, 0]).length := ⟨_, rfl⟩
    rw [← hN] at hXl hXp
    have HN := Lib.hid hN
    have hNi : ¬ (N : Int) = 0 := by omega
    have hNb : ((N : Int) == 0) = false := by simpa using hNi
    obtain ⟨K, hK⟩ : ∃ K : Nat, Int.tmod a (N : Int) = (K : Int) := ⟨(a % N).toNat, by rw [Int.tmod_eq_emod_of_nonneg ha.1]; have := Int.emod_nonneg a hNi; omega⟩
    have hKN : K < N := by
      have h1 : Int.tmod a (N : Int) = a % N := Int.tmod_eq_emod_of_nonneg ha.1
      have h2 := Int.emod_lt_of_pos a (show (0 : Int) < N by omega)
      omega
    have hKm : a % (N : Int) = (K : Int) := by rw [← hK, Int.tmod_eq_emod_of_nonneg ha.1]
    have hKi : (K : Int) ≤ N := by omega
    clear hE b1 b2 b3 hN
    go_enter Try.func12, Try.ntmps12
    go_wp2_with (first | (go_at_call 26; (with_reducible refine (alive08 _).mono ?_); rintro e w1 ⟨rfl, hS1⟩) | (go_at_call 30; (with_reducible refine (HW.out _ hS1).mono ?_); intro e w2 hp; obtain ⟨v2, rfl, hO2, hS2⟩ := write_yes hp HE.out; have hT2 := hS1.trans hS2; obtain ⟨A2, c2, rfl, hc2, hR2⟩ := hO2.rd (by omega) byL_len; rw [← HN.out] at hc2 ⊢; have hcK : (K : Int) ≤ c2 := (by omega); clear hp hS2 hO2) | (go_at_call 27; (with_reducible refine (read_cut A2 K c2 L C [0, 0, 0, 0] _ (by simp) HE.out (by rw [← HN.out]; exact hKN) hR2 hCb (by omega) (by omega)).mono ?_); rintro e w4 ⟨A4, c4, A5, c5, rfl, hS4⟩; have hT4 := hT2.trans hS4))
    go_ret
    exact ⟨by first | rfl | simp, hT4⟩
  · have HE := Lib.hid hE
    obtain ⟨E, hEE⟩ : ∃ E, E = wrE8 L C [0, 0, 0, 0] := ⟨_, rfl⟩
    have dE : (E != 0) = true := by rw [hEE]; simpa using hE
    have HEE := Lib.hid hEE
    clear hE hEE
    go_enter Try.func12, Try.ntmps12
    go_wp2_with (first | (go_at_call 26; (with_reducible refine (alive08 _).mono ?_); rintro e w1 ⟨rfl, hS1⟩) | (go_at_call 30; (with_reducible refine (HW.out _ hS1).mono ?_); intro e w2 hp; obtain ⟨A2, c2, rfl, hS2⟩ := write_no hp HE.out; rw [← HEE.out]; have hT2 := hS1.trans hS2; clear hp))
    go_ret
    exact ⟨by first | rfl | simp, hT2⟩
set_option maxRecDepth 100000 in
set_option maxHeartbeats 8000000 in
theorem walk_compoagain (A : Option Addr) (n c : Nat) (L : List Int) (w : World) (h : RdB w w.heap.size A L) (hn : n = L.length) (hb : Bytes L) (hnn : n ≤ 140737488355328) (hnc : n ≤ c) :
    Calls Try.prog 13 #[.slice A n c] w fun e w' => e = .returned (.bool true) ∧ Since w w' := by
  have hbf := bytes_fn hb
  rw [← hn] at hbf
  have hR := fun w1 (hS : Since w w1) => read_l A n c L w1 hn (h.on hS) hb hnn hnc
  have HR := Lib.hid hR
  have HN := Lib.hid hn
  clear h hR hn
  by_cases hE : (rdAns8 (fnL L) n).e = 0
  · obtain ⟨a1, a2, a3, a4, a5⟩ := ans_ok hbf hE
    have hr : ∀ e w1 w2, RdPost8 (fnL L) n w1 e w2 → ∃ A1 c1 A2 c2, e = .returned (.tuple #[.slice A1 (rdAns8 (fnL L) n).L.length c1, .slice A2 (rdAns8 (fnL L) n).m c2, .int .i64 0]) ∧ RdP8 w2 w2.heap.size A1 (rdAns8 (fnL L) n).L ∧ RdB w2 w2.heap.size A2 ((List.range (rdAns8 (fnL L) n).m).map (fun j => fnL L ((rdAns8 (fnL L) n).s + j))) ∧ Since w1 w2 := by
      rintro e w1 w2 ⟨A1, c1, A2, c2, rfl, h1, h2, h3, hS⟩
      exact ⟨A1, c1, A2, c2, by rw [hE], h1, rdb_map h3.rd, hS⟩
    have hCb : Bytes ((List.range (rdAns8 (fnL L) n).m).map (fun j => fnL L ((rdAns8 (fnL L) n).s + j))) := bytes_map (fun j hj => hbf _ (by omega))
    have hCl : ((List.range (rdAns8 (fnL L) n).m).map (fun j => fnL L ((rdAns8 (fnL L) n).s + j))).length = (rdAns8 (fnL L) n).m := by simp
    generalize (List.range (rdAns8 (fnL L) n).m).map (fun j => fnL L ((rdAns8 (fnL L) n).s + j)) = C at *
    generalize (rdAns8 (fnL L) n).L = Q at *
    generalize (rdAns8 (fnL L) n).m = m at *
    have HRR := Lib.hid hr
    have hE0 := wrE_ok (c := C) (box := [0, 0, 0, 0]) a1 (by rw [hCl]; omega) ⟨by decide, a3⟩
    have HE := Lib.hid hE0
    have hXl : (wrB8 Q C [0, 0, 0, 0]).length ≤ 10 + 16 * 64 + 2 + 65535 := by
      rw [wrB_len _ _ _ rfl]
      have e1 := parts8_le (!C.isEmpty) Q
      have e2 := code8_le C
      omega
    have HCL := Lib.hid hCl.symm
    have hB0 : Bytes ([] : List Int) := by intro v hv; cases hv
    have hQ1 : 1 ≤ Q.length := by have := List.length_pos_iff.2 a1; omega
    have hQ1' : (1 : Int) ≤ (Q.length : Int) := by omega
    have hQ64 : (Q.length : Int) ≤ 64 := by omega
    have hQm : Q.length ≤ maxLen := by simp only [maxLen]; omega
    have hCm : C.length ≤ 70368744177664 := by
      obtain ⟨_, b2, _⟩ := wrE_bound _ _ _ hE0
      omega
    clear hr hE0 hCl hE a1 a3 a5 hbf hb
    go_enter Try.func13, Try.ntmps13
    have tk1 := True.intro
    go_wp2_with (first | (go_at_call 26; (with_reducible refine (alive08 _).mono ?_); rintro e w1 ⟨rfl, hS1⟩) | (go_at_call 27; have _t := tk1; (with_reducible refine (HR.out _ hS1).mono ?_); intro e w2 hp; obtain ⟨A2, c2, A3, c3, rfl, hP2, hB2, hS2⟩ := HRR.out _ _ _ hp; have hT2 := hS1.trans hS2; clear hp tk1 hS2; have tk2 := True.intro) | (go_at_call 30; (with_reducible refine (co_write8 A2 _ c2 Q A3 m c3 C 0 0 0 0 _ hP2 rfl hB2 HCL.out hQm (by omega)).mono ?_); intro e w3 hp; obtain ⟨v3, rfl, hO3, hS3⟩ := write_yes hp HE.out; have hT3 := hT2.trans hS3; obtain ⟨A4, c4, rfl, hc4, hR4⟩ := hO3.rd (by omega) byL_len; have hP3 := hP2.on hS3; have hB3 := hB2.on hS3; clear hp hS3 hO3 hP2 hB2 hT2) | (go_at_call 27; have _t := tk2; (with_reducible refine (read_back A4 _ c4 Q C [0, 0, 0, 0] [] _ (by simp) HE.out (by rw [List.append_nil]) (by rw [List.append_nil]; exact hR4) hCb hB0 (by omega) hc4).mono ?_); rintro e w4 ⟨A5, c5, A6, c6, rfl, hP4, hB4, hS4⟩; have hT4 := hT3.trans hS4; have hP5 := hP3.on hS4; have hB5 := hB3.on hS4; clear tk2 hP3 hB3) | (go_at_call 29; (with_reducible refine (rf_same8 A5 A2 _ _ _ _ Q _ hP4 hP5 rfl rfl hQm).mono ?_); rintro e w5 ⟨rfl, hS5⟩; have hT5 := hT4.trans hS5) | (go_at_call 19; (with_reducible refine (same_l A6 A3 _ m _ _ C C _ rfl HCL.out (hB4.on hS5) (hB5.on hS5) rfl).mono ?_); rintro e w6 ⟨rfl, rfl⟩))
    go_ret
    exact ⟨by first | rfl | simp, hT5⟩
  · obtain ⟨a1, a2⟩ := ans_no hE
    have hr : ∀ e w1 w2, RdPost8 (fnL L) n w1 e w2 → ∃ A1 c1 A2 c2, e = .returned (.tuple #[.slice A1 0 c1, .slice A2 0 c2, .int .i64 (rdAns8 (fnL L) n).e]) ∧ Since w1 w2 := by
      rintro e w1 w2 ⟨A1, c1, A2, c2, rfl, h1, h2, h3, hS⟩
      exact ⟨A1, c1, A2, c2, by rw [a1, a2]; rfl, hS⟩
    obtain ⟨E, hEE⟩ : ∃ E, E = (rdAns8 (fnL L) n).e := ⟨_, rfl⟩
    rw [← hEE] at hE hr
    have dE : (E != 0) = true := by simpa using hE
    have HRR := Lib.hid hr
    clear hr hEE hE a1 a2 hbf
    go_enter Try.func13, Try.ntmps13
    go_wp2_with (first | (go_at_call 26; (with_reducible refine (alive08 _).mono ?_); rintro e w1 ⟨rfl, hS1⟩) | (go_at_call 27; (with_reducible refine (HR.out _ hS1).mono ?_); intro e w2 hp; obtain ⟨A2, c2, A3, c3, rfl, hS2⟩ := HRR.out _ _ _ hp; have hT2 := hS1.trans hS2; clear hp hS2))
    go_ret
    exact ⟨by first | rfl | simp, hT2⟩
end Go.Proofs.Ytbjjndficllogaa
