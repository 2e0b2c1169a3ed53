/-
  Layer 10: append of a slice of points; a slice of points that came in; the law GaussAreas, walked.
-/
import Derived.Test.YtbbbojhncfdbdaaGaI
import Derived.Test.YtbbbojhncfdbdaaKit4
import Derived.Deep.SlicePairs
namespace Go.Proofs.Ytbbbojhncfdbdaa
open Go.RowKit Go.ChangeShapes Go.WideShapes Go.Deep
set_option linter.unusedVariables false

theorem Try.info_pt : (Try.prog.info? 23).map (fun i => (i.zero, i.size, i.bytes)) = some (some (.agg #[.int .i64 0, .int .i64 0]), 2, 16) := by kernel_rfl
def PtV (X Y : Nat → Int) (j : Nat) : Value := .int .i64 (if j % 2 = 0 then X (j / 2) else Y (j / 2))
theorem ptv_even (X Y : Nat → Int) (j : Nat) : PtV X Y (j * 2) = .int .i64 (X j) := by
  unfold PtV; rw [if_pos (by omega), show j * 2 / 2 = j by omega]
theorem ptv_odd (X Y : Nat → Int) (j : Nat) : PtV X Y (j * 2 + 1) = .int .i64 (Y j) := by
  unfold PtV; rw [if_neg (by omega), show (j * 2 + 1) / 2 = j by omega]
section
variable {P : Program} (w : World)
theorem run_append_pts (base : Nat) (t ty e : TypeId) (i : TypeInfo) (z : Value) (bytes : Nat) (ht : P.underlying t = some (.slice e)) (hi : P.info? e = some i) (hz : i.zero = some z)
    (hsize : i.size = 2) (hby : i.bytes = bytes) (hzs : z.cells.size = 2) (g : Nat) (hown : w.ownsRow base e 2 (.slice (some ⟨g, 0, none⟩) 0 0) 0 [])
    (B : Nat) (A : Option Addr) (m c : Nat) (X Y : Nat → Int) (hr : RdP w B A m X Y) (hbytes : (0 + m) * bytes ≤ 140737488355328) (h63 : 0 + m ≤ maxLen) (hbase : base ≤ w.heap.size) :
    ∃ A' c' w', (Builtin.append_ #[t, t] ty #[.slice (some ⟨g, 0, none⟩) 0 0, .slice A m c]).run P w = .ok (.slice A' m c') w' ∧ RdP w' w'.heap.size A' m X Y ∧ w.grownBy w' (some g) := by
  rcases A with _ | ad
  · have hm : m = 0 := by
      rcases Nat.eq_zero_or_pos m with h0 | h0
      · exact h0
      · obtain ⟨b, o, h, _⟩ := hr h0; cases h
    subst hm
    refine ⟨some ⟨g, 0, none⟩, 0, w, ?_, RdP.zero, World.grownBy.refl w _⟩
    simp [Builtin.append_, run_underlying ht, sizeOf, typeInfo, hi, Builtin.lenOf, Builtin.firstCells, storeCells]
  · have hc : ∀ j u, (tab (m * 2) (PtV X Y))[j]? = some u → w.cell? (ad.add j) = some u := by
      intro j u hu
      rw [tab_get] at hu
      split at hu
      · rename_i hj
        obtain ⟨b, o, h, _, hc⟩ := hr (by omega)
        injection h with h; subst h; injection hu with hu; subst hu
        have e : (⟨b, o, none⟩ : Addr).add j = ⟨b, o + j, none⟩ := by unfold Addr.add; split <;> simp_all
        rw [e]
        obtain ⟨h1, h2⟩ := hc (j / 2) (by omega)
        unfold PtV
        by_cases hp : j % 2 = 0
        · rw [if_pos hp, ← h1, show o + j / 2 * 2 = o + j by omega]
        · rw [if_neg hp, ← h2, show o + j / 2 * 2 + 1 = o + j by omega]
      · cases hu
    have h1 : ∀ u ∈ tab (m * 2) (PtV X Y), u.oneCell' = true := by
      intro u hu
      unfold tab at hu
      obtain ⟨k, _, rfl⟩ := List.mem_map.1 hu
      rfl
    obtain ⟨v', w', hrun, h2, h3, h4, _⟩ := run_append_own_at (P := P) w base t ty e i z 2 bytes ht hi hz hsize hby hzs (by omega) _ 0 [] hown ad m c (tab (m * 2) (PtV X Y)) (by rw [tab_len]) hc h1 h63 hbytes hbase
    simp only [Nat.zero_add, List.nil_append] at h2
    rcases h2.2 with ⟨e1, _⟩ | ⟨g', cap', cur, e1, _, hh, _⟩
    · exact absurd (h4.mp e1).1 (by simp)
    · subst e1
      refine ⟨some ⟨g', 0, none⟩, cap', w', hrun, fun hm => ⟨g', 0, rfl, ?_, fun j hj => ?_⟩, h3⟩
      · rcases Nat.lt_or_ge g' w'.heap.size with hlt | hge
        · exact hlt
        · rw [Array.getElem?_eq_none hge] at hh; cases hh
      · have hcell := h2.cells (g := g') rfl
        have a1 := hcell (j * 2) (.int .i64 (X j)) (by rw [tab_get, if_pos (by omega), ptv_even])
        have a2 := hcell (j * 2 + 1) (.int .i64 (Y j)) (by rw [tab_get, if_pos (by omega), ptv_odd])
        exact ⟨by rw [← add_plain]; exact a1, by rw [Nat.add_assoc, ← add_plain]; exact a2⟩
theorem wpList_append_pts {ops : Array Oper} {rest : List Oper} {o : Oper} {a : Act} {Q : Exit → Act → World → Prop} (hgd : o.guard = none) (s x : Operand) (t : TypeId)
    (ho : o.op = .call { callee := .builtin .append, args := #[s, x], argTypes := #[t, t] })
    (base : Nat) (e : TypeId) (i : TypeInfo) (z : Value) (bytes : Nat) (ht : P.underlying t = some (.slice e)) (hi : P.info? e = some i) (hz : i.zero = some z)
    (hsize : i.size = 2) (hby : i.bytes = bytes) (hzs : z.cells.size = 2) (g : Nat) (hs : a.eval s = .slice (some ⟨g, 0, none⟩) 0 0) (hown : w.ownsRow base e 2 (.slice (some ⟨g, 0, none⟩) 0 0) 0 [])
    (B : Nat) (A : Option Addr) (m c : Nat) (X Y : Nat → Int) (hx : a.eval x = .slice A m c) (hr : RdP w B A m X Y) (hbytes : (0 + m) * bytes ≤ 140737488355328) (h63 : 0 + m ≤ maxLen) (hbase : base ≤ w.heap.size)
    (h : ∀ A' c' w', RdP w' w'.heap.size A' m X Y → w.grownBy w' (some g) → wpList P ops Q rest (a.put o.dst (.slice A' m c')) w') :
    wpList P ops Q (o :: rest) a w := by
  refine wpList_plain hgd fun K hK => ?_
  obtain ⟨A', c', w', hr, h2, h3⟩ := run_append_pts (P := P) w base t o.type e i z bytes ht hi hz hsize hby hzs g hown B A m c X Y hr hbytes h63 hbase
  unfold Oper.wp execOp
  simp only [ho, resolve, invoke, builtin, Sem.run_bind, Sem.run_pure, Result.andThen_ok, List.map_toArray, List.map_cons, List.map_nil, hs, hx, hr]
  exact hK _ _ (h A' c' w' h2 h3)
end
section
variable {H : Type} {enc : TypeId × Value → H} {P : Program} {W : World}
/-- A slice of points that came in. -/
theorem open_points {t e : TypeId} {f0 f1 : Field} {r : Reach} {b0 : Nat} {v : Value} {d : DataW H} {ps : List MemPlace} (ht : P.underlying t = some (.slice e)) (he : P.underlying e = some (.struct #[f0, f1]))
    (ce : P.cellsOf e = 2) (o0 : f0.offset = 0) (o1 : f1.offset = 1) (c0 : P.cellsOf f0.type = 1) (c1 : P.cellsOf f1.type = 1) (k0 : P.underlying f0.type = some (.int .i64)) (k1 : P.underlying f1.type = some (.int .i64))
    (hval : Value.okWide P W r b0 t v) (h : DataW.Trod enc P W 0 (fun _ => true) true t v d ps) (hlt : ∀ x ∈ ps, x.block < W.heap.size) :
    ∃ A n c X Y, v = .slice A n c ∧ n ≤ c ∧ c ≤ maxLen ∧ RdP W W.heap.size A n X Y ∧ (∀ j, j < n → In64 (X j) ∧ In64 (Y j)) ∧ (c = 0 ∨ ∃ el sp, d = .slice el sp ∧ el.length + sp.length = c) := by
  obtain ⟨A, n, c, rfl⟩ := okWide_slice ht hval
  obtain ⟨fuel, hf⟩ := h
  rcases open_slice_pairs ht he ce o0 o1 c0 c1 hf with ⟨hcs, hx⟩ | ⟨a, len, cap, m, q, V0, V1, D0, D1, P0, P1, hcs, _, hl, hm, hmm, hx, hall⟩
  · simp [Value.cells] at hcs
    obtain ⟨rfl, rfl, rfl⟩ := hcs
    exact ⟨none, 0, 0, fun _ => 0, fun _ => 0, rfl, Nat.le_refl _, Nat.zero_le _, RdP.zero, fun j hj => absurd hj (by omega), .inl rfl⟩
  · simp [Value.cells] at hcs
    obtain ⟨rfl, rfl, rfl⟩ := hcs
    simp only [if_true] at hmm
    subst hmm
    simp only [Prod.mk.injEq] at hx
    obtain ⟨rfl, rfl⟩ := hx
    have each : ∀ j, j < m → ∃ q : Int × Int, W.cell? (a.add (j * 2)) = some (.int .i64 q.1) ∧ W.cell? (a.add (j * 2 + 1)) = some (.int .i64 q.2) ∧ In64 q.1 ∧ In64 q.2 := by
      intro j hj
      obtain ⟨g1, g2, g3, g4⟩ := hall j hj
      obtain ⟨x, e1, _, wx⟩ := DataW.trod_int k0 g3
      obtain ⟨y, e2, _, wy⟩ := DataW.trod_int k1 g4
      simp only [List.cons.injEq, and_true] at e1 e2
      rw [e1] at g1
      rw [e2] at g2
      exact ⟨(x, y), g1, g2, wf_i64 wx, wf_i64 wy⟩
    obtain ⟨q, hq⟩ := choose_lt each
    refine ⟨some a, n, m, fun j => (q j).1, fun j => (q j).2, rfl, hl, hm, fun hn => ?_, fun j hj => (hq j (by omega)).2.2, .inr ⟨_, _, rfl, ?_⟩⟩
    · have hspot : a.spot = none := by
        have h0 := (hq 0 (by omega)).1
        cases hsp : a.spot with
        | none => rfl
        | some s =>
          have e : (a.add (0 * 2)).spot = some s := by unfold Addr.add; split <;> simp_all
          simp only [World.cell?] at h0
          split at h0
          · simp [e] at h0
          · cases h0
      obtain ⟨b, o, s⟩ := a
      simp only at hspot
      subst hspot
      refine ⟨b, o, rfl, hlt (.cell b (o + 0)) (List.mem_append_left _ (MemPlace.mem_row.2 ⟨0, by omega, rfl⟩)), fun j hj => ?_⟩
      obtain ⟨h1, h2, _⟩ := hq j (by omega)
      rw [Nat.add_assoc, ← add_plain, ← add_plain]
      exact ⟨h1, h2⟩
    · simp; omega
end

set_option maxRecDepth 100000 in
set_option maxHeartbeats 8000000 in
theorem walk_areas (A : Option Addr) (n c : Nat) (X Y : Nat → Int) (w : World) (h : RdP w w.heap.size A n X Y) (hX : ∀ j, j < n → In64 (X j) ∧ In64 (Y j)) (hn : n ≤ maxLen) (hby : n * 16 ≤ 140737488355328) :
    Calls Try.prog 5 #[.slice A n c] w fun e w' => e = .returned (.bool true) ∧ Since w w' := by
  obtain ⟨i0, hi0, hz0, hz1, hz2⟩ := info_parts Try.info_pt
  have h0 : ∀ w : World, (w.alloc (.cells #[] 23)).ownsRow w.heap.size 23 2 (.slice (some ⟨w.heap.size, 0, none⟩) 0 0) 0 [] := fun w =>
    ⟨rfl, .inr ⟨_, 0, #[], rfl, Nat.le_refl _, heap_alloc_new w _, Nat.le_refl _, by simp [maxLen], rfl, rfl⟩⟩
  have q3 : (0 + n) * 16 ≤ 140737488355328 := by omega
  have q4 : 0 + n ≤ maxLen := by omega
  have q5 : ∀ w : World, w.heap.size ≤ (w.alloc (.cells #[] 23)).heap.size := fun w => by simp
  have hn' : (n : Int) ≤ 9223372036854775807 := by simp only [maxLen] at hn; omega
  have CA := Lib.hid (fun B d w hB => ga_area B n d X Y w hB hX hn)
  have CS := Lib.hid (fun B d w h1 h2 => rf_same B A n d c X Y w h1 h2 hn)
  have CL := Lib.hid (fun w hr => rf_all A n c X Y w hr hn)
  have H0 := Lib.hid h0
  have Q5 := Lib.hid q5
  clear h0 q5
  by_cases hbig : 4096 < n
  · have d1 : decide ((4096 : Int) < n) = true := by simp; omega
    have CA := Lib.hid (fun B d w hB => by have := CA.out B d w hB; rw [if_neg (by omega), if_pos hbig] at this; exact this)
    clear hX hn hby
    go_enter Try.func5, Try.ntmps5
    go_wp2_with (first | (go_at_call 15; (with_reducible refine (alive10 _).mono ?_); rintro e w1 ⟨rfl, hS1⟩; have hA1 := h.on hS1; have hA2 : RdP (w1.alloc (.cells #[] 23)) (w1.alloc (.cells #[] 23)).heap.size A n X Y := hA1.on ((Since.refl _).alloc _); have q0 := H0.out w1; have q5 := Q5.out w1) | (at_builtin; refine wpList_append_pts _ (by rfl) _ _ _ (by rfl) w1.heap.size 23 i0 _ 16 Try.underlying39 hi0 hz0 hz1 hz2 (by rfl) _ (by rfl) q0 _ A n c X Y (by rfl) hA2 q3 q4 q5 ?_; intro B d w2 hB2 hg2; have hS2 : Since w1 w2 := since_grown ((Since.refl w1).alloc _) hg2 (fun k hk => by injection hk with hk; omega); have hA3 := hA1.on hS2; have hT2 := hS1.trans hS2; clear hA1 hA2 q0 q5 hg2) | (go_at_call 28; (with_reducible refine (CA.out _ _ _ hB2).mono ?_); rintro e w3 ⟨rfl, hS3⟩; have hB3 := hB2.on hS3; have hA4 := hA3.on hS3; have hT3 := hT2.trans hS3) | (go_at_call 29; (with_reducible refine (CS.out _ _ _ hB3 hA4).mono ?_); rintro e w4 ⟨rfl, hS4⟩; have hT4 := hT3.trans hS4))
    go_ret
    exact ⟨by first | rfl | simp, hT4⟩
  · have d1 : decide ((4096 : Int) < n) = false := by simp; omega
    cases hg : allG X Y n with
    | false =>
      have CA := Lib.hid (fun B d w hB => by have := CA.out B d w hB; rw [if_neg (by simp [hg]), if_neg hbig, hg] at this; simp only [okE, Bool.false_eq_true, if_false] at this; exact this)
      rw [hg] at CL
      clear hX hn hby
      go_enter Try.func5, Try.ntmps5
      go_wp2_with (first | (go_at_call 15; (with_reducible refine (alive10 _).mono ?_); rintro e w1 ⟨rfl, hS1⟩; have hA1 := h.on hS1; have hA2 : RdP (w1.alloc (.cells #[] 23)) (w1.alloc (.cells #[] 23)).heap.size A n X Y := hA1.on ((Since.refl _).alloc _); have q0 := H0.out w1; have q5 := Q5.out w1) | (at_builtin; refine wpList_append_pts _ (by rfl) _ _ _ (by rfl) w1.heap.size 23 i0 _ 16 Try.underlying39 hi0 hz0 hz1 hz2 (by rfl) _ (by rfl) q0 _ A n c X Y (by rfl) hA2 q3 q4 q5 ?_; intro B d w2 hB2 hg2; have hS2 : Since w1 w2 := since_grown ((Since.refl w1).alloc _) hg2 (fun k hk => by injection hk with hk; omega); have hA3 := hA1.on hS2; have hT2 := hS1.trans hS2; clear hA1 hA2 q0 q5 hg2) | (go_at_call 28; (with_reducible refine (CA.out _ _ _ hB2).mono ?_); rintro e w3 ⟨rfl, hS3⟩; have hB3 := hB2.on hS3; have hA4 := hA3.on hS3; have hT3 := hT2.trans hS3) | (go_at_call 29; (with_reducible refine (CS.out _ _ _ hB3 hA4).mono ?_); rintro e w4 ⟨rfl, hS4⟩; have hT4 := hT3.trans hS4; have hA5 := hA4.on hS4) | (go_at_call 26; (with_reducible refine (CL.out _ hA5).mono ?_); rintro e w5 ⟨rfl, hS5⟩; have hA6 := hA5.on hS5; have hT5 := hT4.trans hS5))
      go_ret
      exact ⟨by first | rfl | simp, hT5⟩
    | true =>
      have CR := Lib.hid (fun w hr => rf_area A n c X Y w hr hg (by omega))
      have CA := Lib.hid (fun B d w hB => by have := CA.out B d w hB; rw [if_pos ⟨by omega, hg⟩, if_neg hbig, hg] at this; simp only [okE, if_true] at this; exact this)
      rw [hg] at CL
      generalize areaTo X Y n n = S at *
      clear hX hn hby
      go_enter Try.func5, Try.ntmps5
      go_wp2_with (first | (go_at_call 15; (with_reducible refine (alive10 _).mono ?_); rintro e w1 ⟨rfl, hS1⟩; have hA1 := h.on hS1; have hA2 : RdP (w1.alloc (.cells #[] 23)) (w1.alloc (.cells #[] 23)).heap.size A n X Y := hA1.on ((Since.refl _).alloc _); have q0 := H0.out w1; have q5 := Q5.out w1) | (at_builtin; refine wpList_append_pts _ (by rfl) _ _ _ (by rfl) w1.heap.size 23 i0 _ 16 Try.underlying39 hi0 hz0 hz1 hz2 (by rfl) _ (by rfl) q0 _ A n c X Y (by rfl) hA2 q3 q4 q5 ?_; intro B d w2 hB2 hg2; have hS2 : Since w1 w2 := since_grown ((Since.refl w1).alloc _) hg2 (fun k hk => by injection hk with hk; omega); have hA3 := hA1.on hS2; have hT2 := hS1.trans hS2; clear hA1 hA2 q0 q5 hg2) | (go_at_call 28; (with_reducible refine (CA.out _ _ _ hB2).mono ?_); rintro e w3 ⟨rfl, hS3⟩; have hB3 := hB2.on hS3; have hA4 := hA3.on hS3; have hT3 := hT2.trans hS3) | (go_at_call 29; (with_reducible refine (CS.out _ _ _ hB3 hA4).mono ?_); rintro e w4 ⟨rfl, hS4⟩; have hT4 := hT3.trans hS4; have hA5 := hA4.on hS4) | (go_at_call 26; (with_reducible refine (CL.out _ hA5).mono ?_); rintro e w5 ⟨rfl, hS5⟩; have hA6 := hA5.on hS5; have hT5 := hT4.trans hS5) | (go_at_call 30; (with_reducible refine (CR.out _ hA6).mono ?_); rintro e w6 ⟨rfl, hS6⟩; have hT6 := hT5.trans hS6))
      go_ret
      exact ⟨by first | rfl | simp, hT6⟩
end Go.Proofs.Ytbbbojhncfdbdaa
