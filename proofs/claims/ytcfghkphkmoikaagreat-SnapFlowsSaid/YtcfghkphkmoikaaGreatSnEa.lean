/-
  Layer 17: hot pixels are in range and not too many; the chain of a line; the table of pieces, one step more.
-/
import Derived.Test.YtcfghkphkmoikaaGreatMqQ
import Derived.Test.YtcfghkphkmoikaaGreatMqS
import Derived.Test.YtcfghkphkmoikaaGreatMqN
import Derived.Test.YtcfghkphkmoikaaGreatMqO
import Derived.Test.YtcfghkphkmoikaaGreatSnZ
import Derived.Test.YtcfghkphkmoikaaGreatSnU
namespace Go.Proofs.YtcfghkphkmoikaaGreat
set_option maxRecDepth 100000
open Go.RowKit Go.Sort Go.Maps
set_option linter.unusedVariables false
theorem hitG_pix {l : Ln} {x y : Int} (hg : lnG l = true) (h : HitG l.ax l.ay l.bx l.bz x y) : -65536 ≤ x ∧ x ≤ 65536 ∧ -65536 ≤ y ∧ y ≤ 65536 := by
  unfold lnG at hg
  have i1 := goodB_iff.1 (Bool.and_eq_true_iff.1 hg).1
  have i2 := goodB_iff.1 (Bool.and_eq_true_iff.1 hg).2
  obtain ⟨p, q, hq, hp, hpq, k1, k2⟩ := h
  have key : ∀ a b r : Int, -4194304 ≤ a → a ≤ 4194304 → -4194304 ≤ b → b ≤ 4194304 → rowS a b r p q → -65536 ≤ r ∧ r ≤ 65536 := by
    intro a b r a1 a2 b1 b2 hr
    obtain ⟨r1, r2⟩ := hr
    have e : a * q + p * (b - a) = a * (q - p) + b * p := by grind
    rw [e] at r1 r2
    have m1 := Int.mul_le_mul_of_nonneg_right a2 (show 0 ≤ q - p by omega)
    have m2 := Int.mul_le_mul_of_nonneg_right b2 hp
    have m3 := Int.mul_le_mul_of_nonneg_right a1 (show 0 ≤ q - p by omega)
    have m4 := Int.mul_le_mul_of_nonneg_right b1 hp
    have e1 : (4194304 : Int) * (q - p) + 4194304 * p = 4194304 * q := by grind
    have e2 : (-4194304 : Int) * (q - p) + -4194304 * p = -4194304 * q := by grind
    constructor
    · rcases Int.lt_or_le r (-65536) with h | h
      · have := Int.mul_le_mul_of_nonneg_right (show 64 * r + 32 ≤ -4194304 by omega) (show 0 ≤ q by omega)
        omega
      · exact h
    · rcases Int.lt_or_le 65536 r with h | h
      · have := Int.mul_lt_mul_of_pos_right (show (4194304 : Int) < 64 * r - 32 by omega) hq
        omega
      · exact h
  obtain ⟨x1, x2⟩ := key _ _ _ (by omega) (by omega) (by omega) (by omega) k1
  obtain ⟨y1, y2⟩ := key _ _ _ (by omega) (by omega) (by omega) (by omega) k2
  exact ⟨x1, x2, y1, y2⟩
theorem hot_pix {L : List Ln} {H : List Pq} (hH : HotL L H) (hg : ∀ l ∈ L, lnG l = true) : ∀ p ∈ H, PixOk p := fun p hp => by
  obtain ⟨l, hl, h⟩ := hot_hit ((hH.2 p).1 hp)
  exact hitG_pix (hg l hl) h
theorem hot_nodup {L : List Ln} {H : List Pq} (hH : HotL L H) : H.Nodup := List.Pairwise.imp (fun {a b} (h : LtP a b) (e : a = b) => ltP_irr (by rw [e] at h; exact h)) hH.1
/-- So many hot pixels there are at most. -/
theorem hot_len {L : List Ln} {H : List Pq} (hH : HotL L H) : H.length ≤ 2 * L.length + L.length * L.length := by
  have h3 := nodup_len (H.map fun p => (p.x, p.y)) (endsP L ++ L.flatMap fun s => L.map fun t => (pixX (meetCp s t), pixY (meetCp s t))) (List.Pairwise.map _ (fun a b hab e => hab (by
      obtain ⟨a1, a2⟩ := a
      obtain ⟨b1, b2⟩ := b
      simp only [Prod.mk.injEq] at e
      rw [e.1, e.2])) (hot_nodup hH)) (fun x hx => by
    obtain ⟨p, hp, rfl⟩ := List.mem_map.1 hx
    rw [List.mem_append]
    rcases (hH.2 p).1 hp with h | ⟨s, hs, t, ht, _, e⟩
    · exact .inl (mem_endsP.2 h)
    · exact .inr (List.mem_flatMap.2 ⟨s, hs, List.mem_map.2 ⟨t, ht, e.symm⟩⟩))
  have hf : ∀ M : List Ln, (M.flatMap fun s => L.map fun t => (pixX (meetCp s t), pixY (meetCp s t))).length = M.length * L.length := fun M => by
    induction M with
    | nil => simp
    | cons x M ih => rw [List.flatMap_cons, List.length_append, List.length_map, ih, List.length_cons, Nat.succ_mul]; omega
  rw [List.length_map, List.length_append, endsP_len, hf] at h3
  omega
open Classical in
/-- A line's chain, where there is one. -/
noncomputable def chOf (H : List Pq) (l : Ln) : List Pq := if h : ∃ C, ChL l H C then Classical.choose h else []
theorem chOf_eq {l : Ln} {H C : List Pq} (h : ChL l H C) : chOf H l = C := by
  have hx : ∃ C, ChL l H C := ⟨C, h⟩
  unfold chOf
  rw [dif_pos hx]
  exact chL_same (Classical.choose_spec hx) h
/-- The table of pieces in memory, as steps have filled it. -/
def TabS (w : World) (b n : Nat) (S0 S1 : List (Pq × Pq)) : Prop := ∃ V, MapQ w b n V ∧ TabV S0 S1 V ∧ SupQ V ∧ S0.length ≤ n ∧ S1.length ≤ n
theorem TabS.since {w w' : World} {b n : Nat} {S0 S1 : List (Pq × Pq)} (h : TabS w b n S0 S1) (k : Since w w') : TabS w' b n S0 S1 := by
  obtain ⟨V, h1, h2⟩ := h
  exact ⟨V, h1.since k, h2⟩
theorem tabV_le {S0 S1 : List (Pq × Pq)} {V : Pq → Pq → Option (Int × Int)} (h : TabV S0 S1 V) {a b : Pq} {v : Int × Int} (hv : V a b = some v) {n : Nat} (h0 : S0.length ≤ n) (h1 : S1.length ≤ n) : (-(n : Int) ≤ v.1 ∧ v.1 ≤ n) ∧ -(n : Int) ≤ v.2 ∧ v.2 ≤ n := by
  obtain ⟨m, k⟩ := v
  obtain ⟨_, e1, e2⟩ := h.1 a b m k hv
  have c0 := cnt_le S0 a b
  have c1 := cnt_le S1 a b
  simp only
  omega
/-- One step more, of the first operand or of the second: what is read, and what is stored. -/
theorem TabS.step {w : World} {b n : Nat} {S0 S1 : List (Pq × Pq)} (h : TabS w b n S0 S1) {x y u v : Pq} {d : Int} (hu : PixOk u) (hv : PixOk v) (hd : (LtP x y ∧ u = x ∧ v = y ∧ d = 1) ∨ (LtP y x ∧ u = y ∧ v = x ∧ d = -1)) (hn : n < 100000000) (k : Bool) :
    ∃ m : Int × Int, ((-(n : Int) ≤ m.1 ∧ m.1 ≤ n) ∧ -(n : Int) ≤ m.2 ∧ m.2 ≤ n) ∧ (∀ w', Since w w' → (Instr.lookup 77 (.map (some b)) (pcV u v) false).run Tryz.prog w' = .ok (mnV m) w') ∧
      ∀ w', Since w w' → ∃ w2, (Instr.mapUpdate 77 (.map (some b)) (pcV u v) (mnV (if k then (m.1, m.2 + d) else (m.1 + d, m.2)))).run Tryz.prog w' = .ok () w2 ∧ TabS w2 b (n + 1) (if k then S0 else S0 ++ [(x, y)]) (if k then S1 ++ [(x, y)] else S1) ∧ w'.grownBy w2 (some b) := by
  obtain ⟨V, h1, h2, h3, h4, h5⟩ := h
  have wu := pix_wf hu
  have wv := pix_wf hv
  have huv : LtP u v := by rcases hd with ⟨h, rfl, rfl, _⟩ | ⟨h, rfl, rfl, _⟩ <;> exact h
  have e0 : ∀ a c, LtP a c → ∀ S, cntZ (S ++ [(x, y)]) a c = cntZ S a c + if a = u ∧ c = v then d else 0 := by
    intro a c hac S
    rcases hd with ⟨h, rfl, rfl, rfl⟩ | ⟨h, rfl, rfl, rfl⟩
    · exact cnt_up h a c hac
    · exact cnt_down h a c hac
  refine ⟨(V u v).getD (0, 0), ?_, fun w' hS => (h1.since hS).look wu wv, fun w' hS => ?_⟩
  · cases hV : V u v with
    | none => simp only [Option.getD_none]; omega
    | some m => exact tabV_le h2 hV h4 h5
  · obtain ⟨w2, r1, r2, r3⟩ := (h1.since hS).update wu wv (if k then (((V u v).getD (0, 0)).1, ((V u v).getD (0, 0)).2 + d) else (((V u v).getD (0, 0)).1 + d, ((V u v).getD (0, 0)).2)) (by unfold maxLen; omega)
    refine ⟨w2, r1, ⟨_, r2, ?_, ?_, ?_, ?_⟩, r3⟩
    · cases k
      · have := tab_put (d0 := d) (d1 := 0) (T0 := S0 ++ [(x, y)]) (T1 := S1) huv h2 (fun a c hac => e0 a c hac S0) (fun a c hac => by simp)
        simpa using this
      · have := tab_put (d0 := 0) (d1 := d) (T0 := S0) (T1 := S1 ++ [(x, y)]) huv h2 (fun a c hac => by simp) (fun a c hac => e0 a c hac S1)
        simpa using this
    · intro a c z hz
      unfold putV at hz
      split at hz
      · rename_i e
        rw [e.1, e.2]; exact ⟨hu, hv⟩
      · exact h3 a c z hz
    · cases k <;> simp <;> omega
    · cases k <;> simp <;> omega
theorem TabS.step0 {w : World} {b n : Nat} {S0 S1 : List (Pq × Pq)} (h : TabS w b n S0 S1) {x y u v : Pq} {d : Int} (hu : PixOk u) (hv : PixOk v) (hd : (LtP x y ∧ u = x ∧ v = y ∧ d = 1) ∨ (LtP y x ∧ u = y ∧ v = x ∧ d = -1)) (hn : n < 100000000) :
    ∃ m : Int × Int, ((-(n : Int) ≤ m.1 ∧ m.1 ≤ n) ∧ -(n : Int) ≤ m.2 ∧ m.2 ≤ n) ∧ (∀ w', Since w w' → (Instr.lookup 77 (.map (some b)) (pcV u v) false).run Tryz.prog w' = .ok (mnV m) w') ∧
      ∀ w', Since w w' → ∃ w2, (Instr.mapUpdate 77 (.map (some b)) (pcV u v) (mnV (m.1 + d, m.2))).run Tryz.prog w' = .ok () w2 ∧ TabS w2 b (n + 1) (S0 ++ [(x, y)]) S1 ∧ w'.grownBy w2 (some b) := TabS.step h hu hv hd hn false
theorem TabS.step1 {w : World} {b n : Nat} {S0 S1 : List (Pq × Pq)} (h : TabS w b n S0 S1) {x y u v : Pq} {d : Int} (hu : PixOk u) (hv : PixOk v) (hd : (LtP x y ∧ u = x ∧ v = y ∧ d = 1) ∨ (LtP y x ∧ u = y ∧ v = x ∧ d = -1)) (hn : n < 100000000) :
    ∃ m : Int × Int, ((-(n : Int) ≤ m.1 ∧ m.1 ≤ n) ∧ -(n : Int) ≤ m.2 ∧ m.2 ≤ n) ∧ (∀ w', Since w w' → (Instr.lookup 77 (.map (some b)) (pcV u v) false).run Tryz.prog w' = .ok (mnV m) w') ∧
      ∀ w', Since w w' → ∃ w2, (Instr.mapUpdate 77 (.map (some b)) (pcV u v) (mnV (m.1, m.2 + d))).run Tryz.prog w' = .ok () w2 ∧ TabS w2 b (n + 1) S0 (S1 ++ [(x, y)]) ∧ w'.grownBy w2 (some b) := TabS.step h hu hv hd hn true
theorem TabS.mono {w : World} {b n n' : Nat} {S0 S1 : List (Pq × Pq)} (h : TabS w b n S0 S1) (hn : n ≤ n') : TabS w b n' S0 S1 := by
  obtain ⟨V, ⟨D, h1, h1'⟩, h2, h3, h4, h5⟩ := h
  exact ⟨V, ⟨D, h1.mono hn, h1'⟩, h2, h3, by omega, by omega⟩
theorem TabS.map {w : World} {b n : Nat} {S0 S1 : List (Pq × Pq)} (h : TabS w b n S0 S1) : ∀ cs t z, w.heap[b]? ≠ some (Obj.cells cs t z) := by
  obtain ⟨V, ⟨D, ⟨es, clock, hb, _⟩, _⟩, _⟩ := h
  intro cs t z e
  rw [hb] at e
  cases e
/-- A chain is no longer than the hot pixels are. -/
theorem chL_len {l : Ln} {H C : List Pq} (h : ChL l H C) : C.length ≤ H.length := by
  have hn : C.Nodup := List.Pairwise.imp (fun {a b} (h : AhP _ _ a b) (e : a = b) => ah_irr b (by rw [e] at h; exact h)) h.1
  exact nodup_len C H hn fun x hx => ((h.2 x).1 hx).1
theorem stp_get : ∀ (C : List Pq) (j : Nat) (x y : Pq), C[j]? = some x → C[j + 1]? = some y → (stp C)[j]? = some (x, y)
  | [], j, x, y, h, _ => by simp at h
  | [a], j, x, y, h, k => by simp at k
  | a :: b :: r, 0, x, y, h, k => by
    simp at h k
    subst h k
    rfl
  | a :: b :: r, j + 1, x, y, h, k => by
    have := stp_get (b :: r) j x y (by simpa using h) (by simpa using k)
    simpa [stp] using this
theorem chL_step {l : Ln} {H C : List Pq} (h : ChL l H C) {j : Nat} {x y : Pq} (hx : C[j]? = some x) (hy : C[j + 1]? = some y) : x ≠ y := by
  have hs := List.mem_of_getElem? (stp_get C j x y hx hy)
  exact stp_ne h.1 _ hs
/-- 'm[k] = v' by what its run leaves. -/
theorem wpList_upd_tab {P : Program} {w : World} {T : World → Prop} {b : Nat} {ops : Array Oper} {rest : List Oper} {o : Oper} {a : Act} {Q : Exit → Act → World → Prop} (hg : o.guard = none) (m x v : Operand) (t : TypeId) (hop : o.op = Op.mapUpdate t m x v) (mv xv vv : Value)
    (hm : a.eval m = mv) (hx : a.eval x = xv) (hv : a.eval v = vv) (hrun : ∃ w2, (Instr.mapUpdate t mv xv vv).run P w = .ok () w2 ∧ T w2 ∧ w.grownBy w2 (some b)) (hK : ∀ w2, T w2 → w.grownBy w2 (some b) → wpList P ops Q rest (a.put o.dst undef) w2) : wpList P ops Q (o :: rest) a w := by
  refine wpList_plain hg fun K' hK' => ?_
  obtain ⟨w2, hr, h1, h2⟩ := hrun
  unfold Oper.wp
  simp [execOp, hop, hm, hx, hv, hr, Result.andThen]
  exact hK' _ _ (hK w2 h1 h2)
theorem take_stp {C : List Pq} {j : Nat} {x y : Pq} (hx : C[j]? = some x) (hy : C[j + 1]? = some y) : (stp C).take (j + 1) = (stp C).take j ++ [(x, y)] := by
  rw [List.take_add_one, stp_get C j x y hx hy]; rfl
end Go.Proofs.YtcfghkphkmoikaaGreat
