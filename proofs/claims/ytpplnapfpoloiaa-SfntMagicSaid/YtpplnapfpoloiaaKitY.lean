/-
  Bytes as lists of numbers: rows that read so, rows of a call's own, append; 'Put', 'Copy', 'Same' told by lists.
-/
import Derived.Test.YtpplnapfpoloiaaKitH
import Derived.Test.YtpplnapfpoloiaaCoA
import Derived.Test.YtpplnapfpoloiaaMgB
namespace Go.Proofs.Ytpplnapfpoloiaa
open Go.RowKit Go.ChangeShapes Go.WideShapes Go.Deep
set_option linter.unusedVariables false

def byL (x : Int) : List Value := [.int .u8 x]
theorem byL_len (x : Int) : (byL x).length = 1 := rfl
theorem byL_one (x : Int) : ∀ u ∈ byL x, u.oneCell' = true := by
  intro u hu
  simp only [byL, List.mem_cons, List.not_mem_nil, or_false] at hu
  subst hu
  rfl
theorem infoBy : ∃ i z, Try.prog.info? 5 = some i ∧ i.zero = some z ∧ i.size = 1 ∧ i.bytes = 1 ∧ z.cells.size = 1 := by
  obtain ⟨i0, hi, hz0, hz1, hz2⟩ := info_parts Try.info_u8
  exact ⟨i0, _, hi, hz0, hz1, hz2, rfl⟩
abbrev RdB (w : World) (B : Nat) (A : Option Addr) (L : List Int) : Prop := RdG 1 byL w B A L
abbrev OwnB (w : World) (base : Nat) (v : Value) (L : List Int) : Prop := OwnG 5 1 byL w base v L
def fnL (L : List Int) (j : Nat) : Int := L.getD j 0
theorem fnL_get {L : List Int} {j : Nat} (h : j < L.length) : L[j]? = some (fnL L j) := by
  unfold fnL; rw [List.getD_eq_getElem?_getD, List.getElem?_eq_getElem h]; rfl
section
variable {w w' : World} {B n : Nat} {A : Option Addr} {L : List Int} {f : Nat → Int}
theorem rdb_rd (h : RdB w B A L) : Rd w B A L.length (U8 (fnL L)) := fun hn => by
  obtain ⟨b, o, rfl, hb, hc⟩ := h hn
  refine ⟨b, o, rfl, hb, fun j hj => ?_⟩
  have h1 := hc j _ (fnL_get hj) 0 (by omega)
  rw [Nat.mul_one, Nat.add_zero] at h1
  exact h1
theorem rdb_rd' (h : RdB w B A L) (hn : n = L.length) : Rd w B A n (U8 (fnL L)) := by subst hn; exact rdb_rd h
theorem rdb_of (h : Rd w B A n (U8 f)) (hn : n = L.length) (hf : ∀ j, j < n → f j = fnL L j) : RdB w B A L := fun h0 => by
  subst hn
  obtain ⟨b, o, rfl, hb, hc⟩ := h h0
  refine ⟨b, o, rfl, hb, fun j s hj i hi => ?_⟩
  obtain rfl : i = 0 := by omega
  have hjl : j < L.length := by
    rcases Nat.lt_or_ge j L.length with h | h
    · exact h
    · rw [List.getElem?_eq_none h] at hj; cases hj
  rw [fnL_get hjl] at hj
  injection hj with hj
  subst hj
  rw [Nat.mul_one, Nat.add_zero, hc j hjl, U8, IntRow, hf j hjl]
  rfl
theorem rdb_map (h : Rd w B A n (U8 f)) : RdB w B A ((List.range n).map f) := rdb_of h (by simp) (fun j hj => by simp [fnL, List.getD_eq_getElem?_getD, hj])
/-- A new block of bytes, as a slice. -/
theorem rdb_new (w : World) (b : Nat) (hb : b = w.heap.size) (t : TypeId) (cs : Array Value) (L : List Int) (hcs : cs = (L.map (Value.int .u8)).toArray) : RdB (w.alloc (.cells cs t)) (w.alloc (.cells cs t)).heap.size (some ⟨b, 0, none⟩) L := by
  subst hcs
  refine rdG_lit hb L (fun j s hj i hi => ?_)
  obtain rfl : i = 0 := by omega
  simp [hj, byL]
end
section
variable {P : Program}
/-- append of bytes to bytes of the call's own. -/
theorem wpList_append_b {w w0 : World} {ops : Array Oper} {rest : List Oper} {o : Oper} {a : Act} {Q : Exit → Act → World → Prop} (hgd : o.guard = none) (s x : Operand)
    (ho : o.op = .call { callee := .builtin .append, args := #[s, x], argTypes := #[26, 26] })
    (hS : Since w0 w) (v : Value) (L : List Int) (hs : a.eval s = v) (hown : OwnB w w0.heap.size v L) (B : Nat) (A : Option Addr) (n c : Nat) (M : List Int) (hn : n = M.length) (hx : a.eval x = .slice A n c) (hr : RdB w B A M)
    (hbytes : L.length + M.length ≤ 140737488355328)
    (h : ∀ v' w', OwnB w' w0.heap.size v' (L ++ M) → Since w0 w' → wpList Try.prog ops Q rest (a.put o.dst v') w') :
    wpList Try.prog ops Q (o :: rest) a w := by
  subst hn
  refine wpList_append_g hgd s x 26 5 ho (by omega) byL_len byL_one 1 Try.underlying26 infoBy w0.heap.size v L hs hown B A c M hx hr (by omega) (by simp only [maxLen]; omega) hS.below.size (fun v' w' h9 hg hlt => h v' w' h9 (since_grown hS hg (fun k hk => (hlt k hk).1)))
end
theorem own_app {w : World} {base : Nat} {v : Value} {L M N : List Int} (h : OwnB w base v (L ++ M)) (e : L ++ M = N) : OwnB w base v N := by subst e; exact h

theorem put_l (m : Nat) (x y : Int) (w : World) (hx : In64 x) (hy : y = m) (hm : m ≤ 8) : Calls Try.prog 48 #[.int .i64 x, .int .i64 y] w fun e w' => ∃ g, e = .returned (.slice (some ⟨g, 0, none⟩) m m) ∧ w.heap.size ≤ g ∧ RdB w' w'.heap.size (some ⟨g, 0, none⟩) (putL x m) ∧ Since w w' := by
  refine (put_in m x y w hx hy hm).mono ?_
  rintro e w' ⟨g, rfl, hg, hr, hS⟩
  exact ⟨g, rfl, hg, rdb_map (Rd.of_row hr), hS⟩

theorem rput_l (m : Nat) (x y : Int) (w : World) (hx : In64 x) (hy : y = m) (hm : m ≤ 8) : Calls Try.prog 60 #[.int .i64 x, .int .i64 y] w fun e w' => ∃ g, e = .returned (.slice (some ⟨g, 0, none⟩) m m) ∧ w.heap.size ≤ g ∧ RdB w' w'.heap.size (some ⟨g, 0, none⟩) (putL x m) ∧ Since w w' := by
  refine (rput_in m x y w hx hy hm).mono ?_
  rintro e w' ⟨g, rfl, hg, hr, hS⟩
  exact ⟨g, rfl, hg, rdb_map (Rd.of_row hr), hS⟩

theorem own_of_all {w : World} {g n base : Nat} {f : Nat → Int} (h : All w g 5 n (U8 f)) (hn : n ≤ maxLen) (hb : base ≤ g) : OwnB w base (.slice (some ⟨g, 0, none⟩) n n) ((List.range n).map f) := by
  have e : tab n (U8 f) = cellsG byL ((List.range n).map f) := by
    unfold tab cellsG
    rw [List.flatMap_map]
    simp only [byL]
    induction (List.range n) with
    | nil => rfl
    | cons a l ih => rw [List.map_cons, List.flatMap_cons, ih]; rfl
  have hl : ((List.range n).map f).length = n := by simp
  unfold All at h
  refine ⟨by rw [cellsG_len byL_len], .inr ⟨g, n, (tab n (U8 f)).toArray, by rw [hl], hb, h, by rw [hl]; exact Nat.le_refl _, hn, by simp [tab_len], by rw [← e, hl, Nat.mul_one]; exact List.take_of_length_le (by rw [tab_len]; exact Nat.le_refl _)⟩⟩

theorem put_o (m : Nat) (x y : Int) (w : World) (hx : In64 x) (hy : y = m) (hm : m ≤ 8) : Calls Try.prog 48 #[.int .i64 x, .int .i64 y] w fun e w' => ∃ g, e = .returned (.slice (some ⟨g, 0, none⟩) m m) ∧ w.heap.size ≤ g ∧ OwnB w' w.heap.size (.slice (some ⟨g, 0, none⟩) m m) (putL x m) ∧ Since w w' := by
  subst hy
  have hc : clampW m = m := by unfold clampW; split <;> (try split) <;> omega
  have h := be_putA x m w hx (by unfold In64; omega)
  rw [hc] at h
  refine h.mono ?_
  rintro e w' ⟨g, rfl, hg, hr, hS⟩
  exact ⟨g, rfl, hg, own_of_all hr (by simp only [maxLen]; omega) hg, hS⟩

theorem rput_o (m : Nat) (x y : Int) (w : World) (hx : In64 x) (hy : y = m) (hm : m ≤ 8) : Calls Try.prog 60 #[.int .i64 x, .int .i64 y] w fun e w' => ∃ g, e = .returned (.slice (some ⟨g, 0, none⟩) m m) ∧ w.heap.size ≤ g ∧ OwnB w' w.heap.size (.slice (some ⟨g, 0, none⟩) m m) (putL x m) ∧ Since w w' := by
  subst hy
  have hc : clampW m = m := by unfold clampW; split <;> (try split) <;> omega
  have h := ref_putA x m w hx (by unfold In64; omega)
  rw [hc] at h
  refine h.mono ?_
  rintro e w' ⟨g, rfl, hg, hr, hS⟩
  exact ⟨g, rfl, hg, own_of_all hr (by simp only [maxLen]; omega) hg, hS⟩

theorem OwnG.low {α : Type} {t : TypeId} {k : Nat} {enc : α → List Value} {w : World} {base base' : Nat} {v : Value} {L : List α} (h : OwnG t k enc w base v L) (hb : base' ≤ base) : OwnG t k enc w base' v L := by
  refine ⟨h.1, ?_⟩
  rcases h.2 with h0 | ⟨g, cap, cur, e, hg, r⟩
  · exact .inl h0
  · exact .inr ⟨g, cap, cur, e, Nat.le_trans hb hg, r⟩
theorem byteOf_range (n : Int) (m j : Nat) : 0 ≤ byteOf n m j ∧ byteOf n m j ≤ 255 := byte_range n m j
def Bytes (L : List Int) : Prop := ∀ v ∈ L, 0 ≤ v ∧ v ≤ 255
theorem bytes_put (x : Int) (m : Nat) : Bytes (putL x m) := fun v hv => by
  unfold putL at hv
  obtain ⟨j, _, rfl⟩ := List.mem_map.1 hv
  exact byte_range _ _ _
theorem bytes_app {A B : List Int} (h : Bytes A) (k : Bytes B) : Bytes (A ++ B) := fun v hv => by
  rw [List.mem_append] at hv
  exact hv.elim (h v) (k v)
theorem bytes_fn {L : List Int} (h : Bytes L) : ∀ j, j < L.length → 0 ≤ fnL L j ∧ fnL L j ≤ 255 := fun j hj => h _ (List.mem_of_getElem? (fnL_get hj))
theorem bytes_map {n : Nat} {f : Nat → Int} (h : ∀ j, j < n → 0 ≤ f j ∧ f j ≤ 255) : Bytes ((List.range n).map f) := fun v hv => by
  obtain ⟨j, hj, rfl⟩ := List.mem_map.1 hv
  exact h j (by simpa using hj)
theorem same_l (A B : Option Addr) (n m c d : Nat) (L M : List Int) (w : World) (hn : n = L.length) (hm : m = M.length) (h1 : RdB w w.heap.size A L) (h2 : RdB w w.heap.size B M) (e : L = M) :
    Calls Try.prog 22 #[.slice A n c, .slice B m d] w fun e w' => e = .returned (.bool true) ∧ w' = w := by
  subst e; subst hn; subst hm
  exact ref_same A B _ c d _ _ w (rdb_rd h1) (rdb_rd h2) (fun _ _ => rfl)
theorem copy_l (A : Option Addr) (n c : Nat) (L : List Int) (w : World) (hn : n = L.length) (h : RdB w w.heap.size A L) (hl : L.length ≤ 140737488355328) :
    Calls Try.prog 28 #[.slice A n c] w fun e w' => ∃ g cap, e = .returned (.slice (some ⟨g, 0, none⟩) n cap) ∧ n ≤ cap ∧ w.heap.size ≤ g ∧ OwnB w' w.heap.size (.slice (some ⟨g, 0, none⟩) n cap) L ∧ RdB w' w'.heap.size (some ⟨g, 0, none⟩) L ∧ Since w w' := by
  subst hn
  refine (ref_copy A L.length c (fnL L) w (rdb_rd h) hl).mono ?_
  rintro e w' ⟨g, cap, rfl, ho, hS⟩
  refine ⟨g, cap, rfl, ho.cap, ho.base, ?_, rdb_of (Rd.of_row ho.row) rfl (fun _ _ => rfl), hS⟩
  unfold Own at ho
  have e : tab L.length (U8 (fnL L)) = cellsG byL L := by
    apply List.ext_getElem?
    intro j
    rw [tab_get]
    by_cases hj : j < L.length
    · rw [if_pos hj]
      have := cellsG_get (k := 1) byL_len L j _ (fnL_get hj) 0 (by omega)
      rw [Nat.mul_one, Nat.add_zero] at this
      rw [this]; rfl
    · rw [if_neg hj, List.getElem?_eq_none (by rw [cellsG_len byL_len]; omega)]
  rw [e] at ho
  exact ho
end Go.Proofs.Ytpplnapfpoloiaa
