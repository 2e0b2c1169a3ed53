/-
  Layer 11: 'Segs' of any contour; pieces as they read; the reference's 'Same'; literal contours.
-/
import Derived.Test.YtdbenpncnkfliaaOuE
import Derived.Test.YtdbenpncnkfliaaKit9
namespace Go.Proofs.Ytdbenpncnkfliaa
open Go.RowKit
set_option linter.unusedVariables false

theorem ou_segs (A : Option Addr) (n c : Nat) (X Y : Nat → Int) (O : Nat → Bool) (w : World) (h : RdK w w.heap.size A n X Y O) (hX : ∀ j, j < n → InP (X j) (Y j)) (hn : n ≤ 1000000) :
    Calls Try.prog 15 #[.slice A n c] w (SegsOut w (segsL n X Y O)) := by
  rcases Nat.eq_zero_or_pos n with rfl | hn0
  · exact ou_segs_nil A c X Y O w
  · exact ou_segs_pos A n c X Y O w h hX hn0 hn
/-- Are two pieces the same? -/
def sgEq (s t : Sg) : Bool := (s.ax == t.ax && s.ay == t.ay) && ((s.cx == t.cx && s.cy == t.cy) && ((s.bx == t.bx && s.bz == t.bz) && s.k == t.k))
theorem eq_segs (w : World) (s t : Sg) : (Op.equalIn 10000 37 s.v t.v).run Try.prog w = .ok (sgEq s t) w := by
  obtain ⟨a0, a1, a2, a3, a4, a5, ak⟩ := s
  obtain ⟨b0, b1, b2, b3, b4, b5, bk⟩ := t
  unfold Sg.v sgEq
  simp only
  rw [run_equalIn_struct w 9999 37 _ _ (by kernel_rfl) (by kernel_rfl)]
  have heq : ∀ (d : Nat) (a b : Int) (w : World), (Op.equalIn (d + 1) 3 (.int .i64 a) (.int .i64 b)).run Try.prog w = .ok (a == b) w := fun d a b w => run_equalIn_int w d _ _ _ a b Try.underlying3
  have hc : Try.prog.cellsOf 3 = 1 := by kernel_rfl
  have hcp : Try.prog.cellsOf 33 = 2 := by kernel_rfl
  have hcb : Try.prog.cellsOf 4 = 1 := by kernel_rfl
  have heqb : ∀ (d : Nat) (a b : Bool) (w : World), (Op.equalIn (d + 1) 4 (.bool a) (.bool b)).run Try.prog w = .ok (a == b) w := fun d a b w => by simp [Op.equalIn, run_underlying Try.underlying4]
  have hep : ∀ (x y u v : Int) (w : World), (Op.equalIn 9999 33 (.agg #[.int .i64 x, .int .i64 y]) (.agg #[.int .i64 u, .int .i64 v])).run Try.prog w = .ok (x == u && y == v) w := by
    intro x y u v w
    rw [run_equalIn_struct w 9998 33 _ _ (by kernel_rfl) (by kernel_rfl)]
    simp only [Program.fieldsOf, Try.underlying33]
    by_cases h1 : x = u <;> by_cases h2 : y = v <;> simp [go_sem, h1, h2]
  simp only [Program.fieldsOf, Try.underlying37]
  cases h1 : (a0 == b0 && a1 == b1) <;> cases h2 : (a2 == b2 && a3 == b3) <;> cases h3 : (a4 == b4 && a5 == b5) <;> by_cases h4 : ak = bk <;> simp [go_sem, hep, heqb, h1, h2, h3, h4]
theorem eq_seg (w : World) (a0 a1 a2 a3 a4 a5 : Int) (ak : Bool) : (Op.equalIn 10000 37 (.agg #[.int .i64 a0, .int .i64 a1, .int .i64 a2, .int .i64 a3, .int .i64 a4, .int .i64 a5, .bool ak]) (.agg #[.int .i64 a0, .int .i64 a1, .int .i64 a2, .int .i64 a3, .int .i64 a4, .int .i64 a5, .bool ak])).run Try.prog w = .ok true w := by
  rw [run_equalIn_struct w 9999 37 _ _ (by kernel_rfl) (by kernel_rfl)]
  have heq : ∀ (d : Nat) (a b : Int) (w : World), (Op.equalIn (d + 1) 3 (.int .i64 a) (.int .i64 b)).run Try.prog w = .ok (a == b) w := fun d a b w => run_equalIn_int w d _ _ _ a b Try.underlying3
  have hc : Try.prog.cellsOf 3 = 1 := by kernel_rfl
  have hcp : Try.prog.cellsOf 33 = 2 := by kernel_rfl
  have hcb : Try.prog.cellsOf 4 = 1 := by kernel_rfl
  have heqb : ∀ (d : Nat) (a b : Bool) (w : World), (Op.equalIn (d + 1) 4 (.bool a) (.bool b)).run Try.prog w = .ok (a == b) w := fun d a b w => by simp [Op.equalIn, run_underlying Try.underlying4]
  have hep : ∀ (x y : Int) (w : World), (Op.equalIn 9999 33 (.agg #[.int .i64 x, .int .i64 y]) (.agg #[.int .i64 x, .int .i64 y])).run Try.prog w = .ok true w := by
    intro x y w
    rw [run_equalIn_struct w 9998 33 _ _ (by kernel_rfl) (by kernel_rfl)]
    simp only [Program.fieldsOf, Try.underlying33]
    simp [go_sem]
  simp only [Program.fieldsOf, Try.underlying37]
  simp [go_sem]
attribute [go_sem] eq_seg
/-- A slice's pieces, in a block below B (nil and empty let in). -/
def RdS (w : World) (B : Nat) (A : Option Addr) (L : List Sg) : Prop :=
  0 < L.length → ∃ b o, A = some ⟨b, o, none⟩ ∧ b < B ∧ ∀ j s, L[j]? = some s → w.cell? ⟨b, o + j * 7, none⟩ = some (.int .i64 s.ax) ∧ w.cell? ⟨b, o + j * 7 + 1, none⟩ = some (.int .i64 s.ay) ∧ w.cell? ⟨b, o + j * 7 + 2, none⟩ = some (.int .i64 s.cx) ∧ w.cell? ⟨b, o + j * 7 + 3, none⟩ = some (.int .i64 s.cy) ∧ w.cell? ⟨b, o + j * 7 + 4, none⟩ = some (.int .i64 s.bx) ∧ w.cell? ⟨b, o + j * 7 + 5, none⟩ = some (.int .i64 s.bz) ∧ w.cell? ⟨b, o + j * 7 + 6, none⟩ = some (.bool s.k)
section
variable {w w' : World} {B B' n : Nat} {A : Option Addr} {L : List Sg}
theorem RdS.keep (h : RdS w B A L) (hk : ∀ b o, b < B → w'.cell? ⟨b, o, none⟩ = w.cell? ⟨b, o, none⟩) : RdS w' B A L := fun hn => by
  obtain ⟨b, o, rfl, hb, hc⟩ := h hn
  exact ⟨b, o, rfl, hb, fun j s hj => by
    obtain ⟨h1, h2, h3, h4, h5, h6, h7⟩ := hc j s hj
    exact ⟨(hk _ _ hb).trans h1, (hk _ _ hb).trans h2, (hk _ _ hb).trans h3, (hk _ _ hb).trans h4, (hk _ _ hb).trans h5, (hk _ _ hb).trans h6, (hk _ _ hb).trans h7⟩⟩
theorem RdS.more (h : RdS w B A L) (hB : B ≤ B') : RdS w B' A L := fun hn => by
  obtain ⟨b, o, rfl, hb, hc⟩ := h hn
  exact ⟨b, o, rfl, by omega, hc⟩
theorem RdS.on (h : RdS w w.heap.size A L) (k : Since w w') : RdS w' w'.heap.size A L := (h.keep fun b o hb => k.1 b o hb).more k.below.size
end
theorem cellsL_len : ∀ L : List Sg, (cellsL L).length = L.length * 7
  | [] => rfl
  | s :: L => by
    have ih := cellsL_len L
    unfold cellsL at ih ⊢
    rw [List.flatMap_cons, List.length_append, ih, List.length_cons]
    simp only [sgL, List.length_cons, List.length_nil]
    omega
theorem cellsL_get : ∀ (L : List Sg) (j : Nat) (s : Sg), L[j]? = some s → ∀ i, i < 7 → (cellsL L)[j * 7 + i]? = (sgL s)[i]?
  | [], j, s, h, i, hi => by simp at h
  | a :: L, 0, s, h, i, hi => by
    simp only [List.getElem?_cons_zero, Option.some.injEq] at h
    subst h
    unfold cellsL
    rw [List.flatMap_cons, List.getElem?_append_left (by simp only [sgL, List.length_cons, List.length_nil]; omega), Nat.zero_mul, Nat.zero_add]
  | a :: L, j + 1, s, h, i, hi => by
    rw [List.getElem?_cons_succ] at h
    have ih := cellsL_get L j s h i hi
    unfold cellsL at ih ⊢
    have hl : (sgL a).length = 7 := rfl
    rw [List.flatMap_cons, List.getElem?_append_right (by rw [hl]; omega), hl, show (j + 1) * 7 + i - 7 = j * 7 + i by omega]
    exact ih
theorem cellsL_tab (L : List Sg) : cellsL L = tab (L.length * 7) (fun j => (cellsL L).getD j undef) := by
  apply List.ext_getElem?
  intro j
  rw [tab_get]
  split
  · rename_i h
    rw [List.getD_eq_getElem?_getD, List.getElem?_eq_getElem (by rw [cellsL_len]; exact h)]
    rfl
  · rename_i h
    rw [List.getElem?_eq_none (by rw [cellsL_len]; omega)]
theorem OwnS.rd {w : World} {base : Nat} {v : Value} {L : List Sg} (h : OwnS w base v L) : ∃ A c, v = .slice A L.length c ∧ L.length ≤ c ∧ RdS w w.heap.size A L ∧ (∀ q, v.ownBlock = some q → base ≤ q) := by
  unfold OwnS at h
  rw [cellsL_tab] at h
  obtain ⟨A, c, rfl, hc, hr, hq⟩ := own_k (by omega) h
  refine ⟨A, c, rfl, hc, fun hn => ?_, hq⟩
  obtain ⟨b, o, rfl, hb, hcell⟩ := hr (by omega)
  refine ⟨b, o, rfl, hb, fun j s hj => ?_⟩
  have hjl : j < L.length := by
    rcases Nat.lt_or_ge j L.length with h | h
    · exact h
    · rw [List.getElem?_eq_none h] at hj; cases hj
  have hg := cellsL_get L j s hj
  have hv : ∀ i, i < 7 → w.cell? ⟨b, o + j * 7 + i, none⟩ = some ((sgL s).getD i undef) := fun i hi => by
    have h1 : w.cell? ⟨b, o + (j * 7 + i), none⟩ = some ((cellsL L).getD (j * 7 + i) undef) := hcell (j * 7 + i) (by omega)
    rw [List.getD_eq_getElem?_getD, hg i hi, ← List.getD_eq_getElem?_getD, ← Nat.add_assoc] at h1
    exact h1
  exact ⟨hv 0 (by omega), hv 1 (by omega), hv 2 (by omega), hv 3 (by omega), hv 4 (by omega), hv 5 (by omega), hv 6 (by omega)⟩
/-- What 'Segs' answers, as it reads. -/
theorem ou_segs_rd (A : Option Addr) (n c : Nat) (X Y : Nat → Int) (O : Nat → Bool) (w : World) (h : RdK w w.heap.size A n X Y O) (hX : ∀ j, j < n → InP (X j) (Y j)) (hn : n ≤ 1000000) :
    Calls Try.prog 15 #[.slice A n c] w fun e w' => ∃ A' c', e = .returned (.slice A' (segsL n X Y O).length c') ∧ RdS w' w'.heap.size A' (segsL n X Y O) ∧ Since w w' := by
  refine (ou_segs A n c X Y O w h hX hn).mono ?_
  rintro e w' ⟨v, base, rfl, hb, hO, hS⟩
  obtain ⟨A', c', rfl, hc, hr, _⟩ := hO.rd
  exact ⟨A', c', rfl, hr, hS⟩
theorem rdK_lit (w : World) (b : Nat) (hb : b = w.heap.size) (t : TypeId) (cs : Array Value) (n : Nat) (X Y : Nat → Int) (O : Nat → Bool)
    (h : ∀ j, j < n → cs[0 + j * 3]? = some (.int .i64 (X j)) ∧ cs[0 + j * 3 + 1]? = some (.int .i64 (Y j)) ∧ cs[0 + j * 3 + 2]? = some (.bool (O j))) :
    RdK (w.alloc (.cells cs t)) (w.alloc (.cells cs t)).heap.size (some ⟨b, 0, none⟩) n X Y O := fun _ => by
  subst hb
  refine ⟨w.heap.size, 0, rfl, by simp, fun j hj => ?_⟩
  rw [World.cell?_alloc_new, World.cell?_alloc_new, World.cell?_alloc_new]
  exact h j hj
def nthI (l : List Int) (j : Nat) : Int := l.getD j 0
def nthB (l : List Bool) (j : Nat) : Bool := l.getD j false
theorem inP_lit {l m : List Int} (h : l.all (fun x => decide (-1000 ≤ x ∧ x ≤ 1000)) = true) (h' : m.all (fun x => decide (-1000 ≤ x ∧ x ≤ 1000)) = true) (j : Nat) : InP (nthI l j) (nthI m j) := by
  have k : ∀ l : List Int, l.all (fun x => decide (-1000 ≤ x ∧ x ≤ 1000)) = true → -1000 ≤ nthI l j ∧ nthI l j ≤ 1000 := fun l h => by
    unfold nthI
    rw [List.getD_eq_getElem?_getD]
    cases hg : l[j]? with
    | none => simp
    | some x =>
      have := List.all_eq_true.1 h x (List.mem_of_getElem? hg)
      simpa using this
  have h1 := k l h
  have h2 := k m h'
  unfold InP In64
  omega
set_option maxRecDepth 100000 in
set_option maxHeartbeats 4000000 in
theorem rf_same11 (A A' : Option Addr) (c c' : Nat) (L : List Sg) (w : World) (h : RdS w w.heap.size A L) (h' : RdS w w.heap.size A' L) (hn : L.length ≤ maxLen) :
    Calls Try.prog 16 #[.slice A L.length c, .slice A' L.length c'] w fun e w' => e = .returned (.bool true) ∧ Since w w' := by
  generalize hnl : L.length = n at *
  have hn' : (n : Int) ≤ 9223372036854775807 := by simp only [maxLen] at hn; omega
  go_enter Try.func16, Try.ntmps16
  go_wp2
  go_loopw [13] (fun y wr => ∃ j : Nat, j ≤ n ∧ y = .int .i64 (j : Int) ∧ Since w wr) (fun y _ => n - (intOf y).toNat)
  case atStart => exact ⟨0, by omega, rfl, Since.refl _⟩
  case round =>
    obtain ⟨j, hj, rfl, hSr⟩ := hrel
    by_cases hjn : j < n
    · have hjn' : (j : Int) < n := by omega
      obtain ⟨b, o, rfl, hb, hc⟩ := h (by omega)
      obtain ⟨b', o', rfl, hb', hc'⟩ := h' (by omega)
      have hs : L[j]? = some L[j] := List.getElem?_eq_getElem (by omega)
      obtain ⟨c1, c2, c3, c4, c5, c6, c7⟩ := hc j _ hs
      obtain ⟨d1, d2, d3, d4, d5, d6, d7⟩ := hc' j _ hs
      generalize L[j] = s at *
      obtain ⟨ax, ay, cx, cy, bx, bz, k⟩ := s
      simp only at c1 c2 c3 c4 c5 c6 c7 d1 d2 d3 d4 d5 d6 d7
      have c1 := (hSr.1 _ _ hb).trans c1
      have c2 := (hSr.1 _ _ hb).trans c2
      have c3 := (hSr.1 _ _ hb).trans c3
      have c4 := (hSr.1 _ _ hb).trans c4
      have c5 := (hSr.1 _ _ hb).trans c5
      have c6 := (hSr.1 _ _ hb).trans c6
      have c7 := (hSr.1 _ _ hb).trans c7
      have d1 := (hSr.1 _ _ hb').trans d1
      have d2 := (hSr.1 _ _ hb').trans d2
      have d3 := (hSr.1 _ _ hb').trans d3
      have d4 := (hSr.1 _ _ hb').trans d4
      have d5 := (hSr.1 _ _ hb').trans d5
      have d6 := (hSr.1 _ _ hb').trans d6
      have d7 := (hSr.1 _ _ hb').trans d7
      have hbw := hSr.2.2.1 _ hb
      have hbw' := hSr.2.2.1 _ hb'
      clear hc hc' h h' hs
      go_wp2
      go_region
      all_goals go_wp2
      all_goals go_roundw
      case rel => exact ⟨j + 1, by omega, by go_num, hSr.drew⟩
      case measure => simp [intOf]; omega
    · obtain rfl : j = n := by omega
      clear h h'
      go_wp2
      go_ret
      exact ⟨rfl, hSr⟩
end Go.Proofs.Ytdbenpncnkfliaa
