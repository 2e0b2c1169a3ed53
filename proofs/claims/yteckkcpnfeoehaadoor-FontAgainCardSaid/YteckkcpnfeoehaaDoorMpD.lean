/-
  Texts of this seat, put together: each with its own head.
-/
import Derived.Test.YteckkcpnfeoehaaDoorMpC
import Derived.Test.YteckkcpnfeoehaaDoorMpB
import Derived.OwnWalk
import Derived.Test.YteckkcpnfeoehaaDoorMnAe
import Derived.WalkMore
import Derived.ScopeJumps
import Derived.Test.YteckkcpnfeoehaaDoorMnAg
import Derived.Test.YteckkcpnfeoehaaDoorKitT

/-
  Layer 8: readPart, readCode, walked.
-/
namespace Go.Proofs.YteckkcpnfeoehaaDoor
set_option maxRecDepth 100000
open Go.RowKit Go.ChangeShapes Go.WideShapes Go.Deep
set_option linter.unusedVariables false


theorem u_out (A : Option Addr) (n c : Nat) (f : Nat → Int) (p m : Nat) (x y : Int) (w : World) (h : Rd w w.heap.size A n (U8 f)) (hf : ∀ j, j < n → 0 ≤ f j ∧ f j ≤ 255) (hx : x = p) (hy : y = m) (hm : 1 ≤ m ∧ m ≤ 4) (hp : n < p + m) (hpn : p ≤ 180000000000000) (hn : n ≤ 140737488355328) :
    Calls Tryd.prog 65 #[.slice A n c, .int .i64 x, .int .i64 y] w fun e w' => e = .returned (.tuple #[.int .i64 0, .int .i64 3]) ∧ w' = w := by
  subst hx; subst hy
  have h' := be_u A n c f p m w h hf (by unfold In64; omega) (by unfold In64; omega) hn
  unfold uAns at h'
  rw [if_neg (by omega), if_neg (by unfold Fits; omega)] at h'
  simpa using h'

theorem ru_out (A : Option Addr) (n c : Nat) (f : Nat → Int) (p m : Nat) (x y : Int) (w : World) (h : Rd w w.heap.size A n (U8 f)) (hf : ∀ j, j < n → 0 ≤ f j ∧ f j ≤ 255) (hx : x = p) (hy : y = m) (hm : 1 ≤ m ∧ m ≤ 4) (hp : n < p + m) (hpn : p ≤ 180000000000000) (hn : n ≤ 140737488355328) :
    Calls Tryd.prog 47 #[.slice A n c, .int .i64 x, .int .i64 y] w fun e w' => e = .returned (.tuple #[.int .i64 0, .int .i64 3]) ∧ w' = w := by
  subst hx; subst hy
  have h' := ref_u A n c f p m w h hf (by unfold In64; omega) (by unfold In64; omega) hn
  unfold uAns at h'
  rw [if_neg (by omega), if_neg (by unfold Fits; omega)] at h'
  simpa using h'


theorem s_out (A : Option Addr) (n c : Nat) (f : Nat → Int) (p m : Nat) (x y : Int) (w : World) (h : Rd w w.heap.size A n (U8 f)) (hf : ∀ j, j < n → 0 ≤ f j ∧ f j ≤ 255) (hx : x = p) (hy : y = m) (hm : 1 ≤ m ∧ m ≤ 4) (hp : n < p + m) (hpn : p ≤ 180000000000000) (hn : n ≤ 140737488355328) :
    Calls Tryd.prog 74 #[.slice A n c, .int .i64 x, .int .i64 y] w fun e w' => e = .returned (.tuple #[.int .i64 0, .int .i64 3]) ∧ w' = w := by
  subst hx; subst hy
  have h' := be_s A n c f p m w h hf (by unfold In64; omega) (by unfold In64; omega) hn
  unfold sAns at h'
  rw [if_neg (by omega), if_neg (by unfold Fits; omega)] at h'
  simpa using h'

theorem cut_l (A : Option Addr) (n c : Nat) (f : Nat → Int) (p m : Nat) (x y : Int) (w : World) (h : Rd w w.heap.size A n (U8 f)) (hx : x = p) (hy : y = m) (hp : p + m ≤ n) (hn : n ≤ 140737488355328) (hnc : n ≤ c) :
    Calls Tryd.prog 92 #[.slice A n c, .int .i64 x, .int .i64 y] w fun e w' => ∃ A' cap, e = .returned (.tuple #[.slice A' m cap, .int .i64 0]) ∧ m ≤ cap ∧ Nw w' w.heap.size A' m (U8 (fun j => f (p + j))) ∧ Since w w' := by
  subst hx; subst hy
  refine (be_cut A n c f p m w h (by unfold In64; omega) (by unfold In64; omega) hn hnc).mono ?_
  rintro e w' ⟨A', l, cap, rfl, hl, hc, hN, hS⟩
  obtain ⟨e1, e2⟩ := cut_yes (n := n) (k := m) (i := p) ⟨by omega, by unfold Fits; omega⟩
  rw [e2] at hl
  subst hl
  exact ⟨A', cap, by rw [e1], hc, hN, hS⟩
theorem cut_l_no (A : Option Addr) (n c : Nat) (f : Nat → Int) (p m : Nat) (x y : Int) (w : World) (h : Rd w w.heap.size A n (U8 f)) (hx : x = p) (hy : y = m) (hp : n < p + m) (hpn : p ≤ 180000000000000) (hm : m ≤ 180000000000000) (hn : n ≤ 140737488355328) (hnc : n ≤ c) :
    Calls Tryd.prog 92 #[.slice A n c, .int .i64 x, .int .i64 y] w fun e w' => ∃ A' cap, e = .returned (.tuple #[.slice A' 0 cap, .int .i64 3]) ∧ Since w w' := by
  subst hx; subst hy
  refine (be_cut A n c f p m w h (by unfold In64; omega) (by unfold In64; omega) hn hnc).mono ?_
  rintro e w' ⟨A', l, cap, rfl, hl, hc, hN, hS⟩
  obtain ⟨e1, e2⟩ := cut_no (n := n) (k := m) (i := p) (by unfold Fits; omega)
  rw [e2] at hl
  subst hl
  exact ⟨A', cap, by rw [e1], hS⟩

theorem rcut_l (A : Option Addr) (n c : Nat) (f : Nat → Int) (p m : Nat) (x y : Int) (w : World) (h : Rd w w.heap.size A n (U8 f)) (hx : x = p) (hy : y = m) (hp : p + m ≤ n) (hn : n ≤ 140737488355328) (hnc : n ≤ c) :
    Calls Tryd.prog 49 #[.slice A n c, .int .i64 x, .int .i64 y] w fun e w' => ∃ A' cap, e = .returned (.tuple #[.slice A' m cap, .int .i64 0]) ∧ m ≤ cap ∧ Nw w' w.heap.size A' m (U8 (fun j => f (p + j))) ∧ Since w w' := by
  subst hx; subst hy
  refine (ref_cut A n c f p m w h (by unfold In64; omega) (by unfold In64; omega) hn hnc).mono ?_
  rintro e w' ⟨A', l, cap, rfl, hl, hc, hN, hS⟩
  obtain ⟨e1, e2⟩ := cut_yes (n := n) (k := m) (i := p) ⟨by omega, by unfold Fits; omega⟩
  rw [e2] at hl
  subst hl
  exact ⟨A', cap, by rw [e1], hc, hN, hS⟩
theorem rcut_l_no (A : Option Addr) (n c : Nat) (f : Nat → Int) (p m : Nat) (x y : Int) (w : World) (h : Rd w w.heap.size A n (U8 f)) (hx : x = p) (hy : y = m) (hp : n < p + m) (hpn : p ≤ 180000000000000) (hm : m ≤ 180000000000000) (hn : n ≤ 140737488355328) (hnc : n ≤ c) :
    Calls Tryd.prog 49 #[.slice A n c, .int .i64 x, .int .i64 y] w fun e w' => ∃ A' cap, e = .returned (.tuple #[.slice A' 0 cap, .int .i64 3]) ∧ Since w w' := by
  subst hx; subst hy
  refine (ref_cut A n c f p m w h (by unfold In64; omega) (by unfold In64; omega) hn hnc).mono ?_
  rintro e w' ⟨A', l, cap, rfl, hl, hc, hN, hS⟩
  obtain ⟨e1, e2⟩ := cut_no (n := n) (k := m) (i := p) (by unfold Fits; omega)
  rw [e2] at hl
  subst hl
  exact ⟨A', cap, by rw [e1], hS⟩

section
variable {P : Program} {fn : Func} {R : Ending → World → Prop} {a : Act} {w : World}
/-- The end of a function whose results are a struct in memory and three numbers. -/
theorem ret_agg_tmp3 {p q1 q2 q3 ty : Nat} {b : Nat} {cs : List Value} {d : TypeDesc} {x1 x2 x3 : Value} (hf : fn.results = #[.cell p ty, .tmp q1, .tmp q2, .tmp q3]) (hp : a.tmps.getD p undef = .pointer (some ⟨b, 0, none⟩)) (hc : w.rangeAt b 0 cs)
    (hu : P.underlying ty = some d) (hd : d.isRow = true) (hi : (P.info? ty).map (·.size) = some cs.length) (h1 : a.tmps.getD q1 undef = x1) (h2 : a.tmps.getD q2 undef = x2) (h3 : a.tmps.getD q3 undef = x3) (hdf : a.defers = []) (hR : R (.returned (.tuple #[.agg cs.toArray, x1, x2, x3])) w) : bodyPost P fn R .ret a w := by
  refine bodyPost_ret (v := .tuple #[.agg cs.toArray, x1, x2, x3]) ?_ hdf hR
  simp only [results, hf]
  have hl := run_loadVar_mid (P := P) w b 0 ty cs d hc hu hd hi
  have hp' : a.tmps[p]?.getD undef = .pointer (some ⟨b, 0, none⟩) := by simpa using hp
  have h1' : a.tmps[q1]?.getD undef = x1 := by simpa using h1
  have h2' : a.tmps[q2]?.getD undef = x2 := by simpa using h2
  have h3' : a.tmps[q3]?.getD undef = x3 := by simpa using h3
  simp [hp', asAddr, hl, h1', h2', h3']
end
def ptV (p : Pt8) : List Value := [.int .i64 p.g, .int .i64 p.x, .int .i64 p.y, .int .i64 p.m0, .int .i64 p.m1, .int .i64 p.m2, .int .i64 p.m3]
theorem range7 {w : World} {b : Nat} {v0 v1 v2 v3 v4 v5 v6 : Value} (h0 : w.cell? ⟨b, 0, none⟩ = some v0) (h1 : w.cell? ⟨b, 1, none⟩ = some v1) (h2 : w.cell? ⟨b, 2, none⟩ = some v2) (h3 : w.cell? ⟨b, 3, none⟩ = some v3) (h4 : w.cell? ⟨b, 4, none⟩ = some v4) (h5 : w.cell? ⟨b, 5, none⟩ = some v5) (h6 : w.cell? ⟨b, 6, none⟩ = some v6) : w.rangeAt b 0 [v0, v1, v2, v3, v4, v5, v6] := fun j v hv => by
  have hj : j = 0 ∨ j = 1 ∨ j = 2 ∨ j = 3 ∨ j = 4 ∨ j = 5 ∨ j = 6 := by
    have : j < 7 := by
      rcases Nat.lt_or_ge j 7 with h | h
      · exact h
      · rw [List.getElem?_eq_none (by simpa using h)] at hv; cases hv
    omega
  rcases hj with rfl | rfl | rfl | rfl | rfl | rfl | rfl <;> (simp at hv; subst hv; assumption)
def zPt : Pt8 := ⟨0, 0, 0, 0, 0, 0, 0⟩
theorem rd_part7 {w : World} {A : Option Addr} {n : Nat} {V : Nat → Value} (h : Rd w w.heap.size A n V) (o : Obj) : Rd (w.alloc o) (w.alloc o).heap.size A n V := h.on ((Since.refl w).alloc o)
theorem nm8_or (x : Int) : nm8 x = 0 ∨ nm8 x = 1 ∨ nm8 x = 2 ∨ nm8 x = 4 := by unfold nm8; split <;> (try split) <;> (try split) <;> omega
theorem wd8_or (x : Int) : (Has8 x 1 ∧ wd8 x = 2) ∨ (¬ Has8 x 1 ∧ wd8 x = 1) := by
  unfold wd8; by_cases h : Has8 x 1
  · exact .inl ⟨h, if_pos h⟩
  · exact .inr ⟨h, if_neg h⟩
end Go.Proofs.YteckkcpnfeoehaaDoor

/-
  Layer 7: small functions, walked: fits, readStep; short of the reference.
-/
namespace Go.Proofs.YteckkcpnfeoehaaDoor
set_option maxRecDepth 100000
open Go.RowKit Go.ChangeShapes Go.WideShapes Go.Deep
set_option linter.unusedVariables false
set_option linter.unusedSimpArgs false


theorem num_one (f : Nat → Int) (p : Nat) : numAt f p 1 = f p := by simp [numAt]
/-- A step's width and value, by the two bits. -/
def swB (s u : Bool) : Nat := if s then 1 else if u then 0 else 2
def svB (f : Nat → Int) (s u : Bool) (p : Nat) : Int := if s then (if u then f p else - f p) else if u then 0 else sgn 2 (numAt f p 2)
theorem swB_is (is sm g : Int) : sw7 is sm g = swB (decide (Has8 g is)) (decide (Has8 g sm)) := by
  unfold sw7 swB; simp only [decide_eq_true_eq]
theorem svB_is (f : Nat → Int) (is sm g : Int) (p : Nat) : sv7 f is sm g p = svB f (decide (Has8 g is)) (decide (Has8 g sm)) p := by
  unfold sv7 svB; simp only [decide_eq_true_eq]
end Go.Proofs.YteckkcpnfeoehaaDoor

/-
  Layer 7: writeStep, walked.
-/
namespace Go.Proofs.YteckkcpnfeoehaaDoor
set_option maxRecDepth 100000
open Go.RowKit Go.ChangeShapes Go.WideShapes Go.Deep
set_option linter.unusedVariables false
set_option linter.unusedSimpArgs false

theorem putL_one {d : Int} (h0 : 0 ≤ d) (h1 : d < 256) : putL d 1 = [d] := by
  have e : byteOf d 1 0 = d := by unfold byteOf; simp; omega
  have e2 : putL d 1 = [byteOf d 1 0] := rfl
  rw [e2, e]

end Go.Proofs.YteckkcpnfeoehaaDoor

/-
  Layer 7: the reference's step, walked; a literal of bytes as an own row.
-/
namespace Go.Proofs.YteckkcpnfeoehaaDoor
set_option maxRecDepth 100000
open Go.RowKit Go.ChangeShapes Go.WideShapes Go.Deep
set_option linter.unusedVariables false
set_option linter.unusedSimpArgs false

theorem ownB_new (w : World) (base b n : Nat) (hb : b = w.heap.size) (hB : base ≤ w.heap.size) (cs : Array Value) (L : List Int) (hn : n = L.length) (hcs : cs = (L.map (Value.int .u8)).toArray) (hL : L.length ≤ 1000) : OwnB (w.alloc (.cells cs 5)) base (.slice (some ⟨b, 0, none⟩) n n) L := by
  subst hb; subst hn; subst hcs
  have e : cellsG byL L = L.map (Value.int .u8) := by
    clear hL
    induction L with
    | nil => rfl
    | cons a l ih => unfold cellsG at ih ⊢; rw [List.flatMap_cons, List.map_cons, ih]; rfl
  exact ⟨by rw [cellsG_len byL_len], .inr ⟨w.heap.size, L.length, _, rfl, hB, heap_alloc_new w _, Nat.le_refl _, by simp only [maxLen]; omega, by simp, by rw [e, Nat.mul_one]; exact List.take_of_length_le (by simp)⟩⟩

end Go.Proofs.YteckkcpnfeoehaaDoor

/-
  Whole numbers as lists: rows that read so, rows of a call's own.
-/
namespace Go.Proofs.YteckkcpnfeoehaaDoor
set_option maxRecDepth 100000
open Go.RowKit Go.ChangeShapes Go.WideShapes Go.Deep
set_option linter.unusedVariables false

def inL (x : Int) : List Value := [.int .i64 x]
theorem inL_len (x : Int) : (inL x).length = 1 := rfl
theorem inL_one (x : Int) : ∀ u ∈ inL x, u.oneCell' = true := by
  intro u hu
  simp only [inL, List.mem_cons, List.not_mem_nil, or_false] at hu
  subst hu
  rfl
abbrev RdI (w : World) (B : Nat) (A : Option Addr) (L : List Int) : Prop := RdG 1 inL w B A L
abbrev OwnI (w : World) (base : Nat) (v : Value) (L : List Int) : Prop := OwnG 3 1 inL w base v L
theorem infoIn0 : (Tryd.prog.info? 3).map (fun i => (i.zero, i.size, i.bytes)) = some (some (.int .i64 0), 1, 8) := by kernel_rfl
theorem infoIn : ∃ i z, Tryd.prog.info? 3 = some i ∧ i.zero = some z ∧ i.size = 1 ∧ i.bytes = 8 ∧ z.cells.size = 1 := by
  obtain ⟨i0, hi, hz0, hz1, hz2⟩ := info_parts infoIn0
  exact ⟨i0, _, hi, hz0, hz1, hz2, rfl⟩
theorem rdi_new (w : World) (b : Nat) (hb : b = w.heap.size) (t : TypeId) (cs : Array Value) (L : List Int) (hcs : cs = (L.map (Value.int .i64)).toArray) : RdI (w.alloc (.cells cs t)) (w.alloc (.cells cs t)).heap.size (some ⟨b, 0, none⟩) L := by
  subst hcs
  refine rdG_lit hb L (fun j s hj i hi => ?_)
  obtain rfl : i = 0 := by omega
  simp [hj, inL]
theorem RdG.dn {α : Type} {k : Nat} {enc : α → List Value} {w : World} {B : Nat} {A : Option Addr} {L : List α} (h : RdG k enc w B A L) (j : Nat) : RdG k enc (w.drewN j) B A L := h
theorem ownI_new (w : World) (base b n : Nat) (hb : b = w.heap.size) (hB : base ≤ w.heap.size) (cs : Array Value) (L : List Int) (hn : n = L.length) (hcs : cs = (L.map (Value.int .i64)).toArray) (hL : L.length ≤ 1000) : OwnG 3 1 inL (w.alloc (.cells cs 3)) base (.slice (some ⟨b, 0, none⟩) n n) L := by
  subst hb; subst hn; subst hcs
  have e : cellsG inL L = L.map (Value.int .i64) := by
    clear hL
    induction L with
    | nil => rfl
    | cons a l ih => unfold cellsG at ih ⊢; rw [List.flatMap_cons, List.map_cons, ih]; rfl
  exact ⟨by rw [cellsG_len inL_len], .inr ⟨w.heap.size, L.length, _, rfl, hB, heap_alloc_new w _, Nat.le_refl _, by simp only [maxLen]; omega, by simp, by rw [e, Nat.mul_one]; exact List.take_of_length_le (by simp)⟩⟩
abbrev I64 (f : Nat → Int) : Nat → Value := IntRow .i64 f
section
variable {w w' : World} {B n : Nat} {A : Option Addr} {L : List Int} {f : Nat → Int}
theorem rdi_rd (h : RdI w B A L) : Rd w B A L.length (I64 (fnL L)) := fun hn => by
  obtain ⟨b, o, rfl, hb, hc⟩ := h hn
  refine ⟨b, o, rfl, hb, fun j hj => ?_⟩
  have h1 := hc j _ (fnL_get hj) 0 (by omega)
  rw [Nat.mul_one, Nat.add_zero] at h1
  exact h1
theorem rdi_rd' (h : RdI w B A L) (hn : n = L.length) : Rd w B A n (I64 (fnL L)) := by subst hn; exact rdi_rd h
theorem rdi_of (h : Rd w B A n (I64 f)) (hn : n = L.length) (hf : ∀ j, j < n → f j = fnL L j) : RdI w B A L := fun h0 => by
  subst hn
  obtain ⟨b, o, rfl, hb, hc⟩ := h h0
  refine ⟨b, o, rfl, hb, fun j s hj i hi => ?_⟩
  obtain rfl : i = 0 := by omega
  have hjl : j < L.length := by
    rcases Nat.lt_or_ge j L.length with h | h
    · exact h
    · rw [List.getElem?_eq_none h] at hj; cases hj
  rw [fnL_get hjl] at hj
  injection hj with hj
  subst hj
  rw [Nat.mul_one, Nat.add_zero, hc j hjl]; simp only [I64, IntRow]; rw [hf j hjl]
  rfl
end
/-- A new block that holds one number. -/
theorem in_one (w : World) (b : Nat) (hb : b = w.heap.size) (ty : TypeId) (x : Int) : RdI (w.alloc (.cells #[.int .i64 x] ty)) (w.alloc (.cells #[.int .i64 x] ty)).heap.size (some ⟨b, 0, none⟩) [x] :=
  rdG_one hb x (fun i hi => by
    obtain rfl : i = 0 := by omega
    rfl)
section
variable {P : Program}
/-- append of one number, just built, to numbers of the call's own. -/
theorem wpList_append_i {w w0 : World} {ops : Array Oper} {rest : List Oper} {o : Oper} {a : Act} {Q : Exit → Act → World → Prop} (hgd : o.guard = none) (s x : Operand)
    (ho : o.op = .call { callee := .builtin .append, args := #[s, x], argTypes := #[72, 72] })
    (ty : TypeId) (hS : Since w0 w) (v : Value) (L : List Int) (hs : a.eval s = v) (hown : OwnI w w0.heap.size v L) (b c : Nat) (y : Int) (hx : a.eval x = .slice (some ⟨b, 0, none⟩) 1 c) (hb : b = w.heap.size)
    (hbytes : L.length ≤ 3000000)
    (h : ∀ v' w', OwnI w' w0.heap.size v' (L ++ [y]) → (w.alloc (.cells #[.int .i64 y] ty)).grownBy w' v.ownBlock → (∀ q, v.ownBlock = some q → w0.heap.size ≤ q ∧ q < w.heap.size) → Since w0 w' → wpList Tryd.prog ops Q rest (a.put o.dst v') w') :
    wpList Tryd.prog ops Q (o :: rest) a (w.alloc (.cells #[.int .i64 y] ty)) :=
  wpList_append_g hgd s x 72 3 ho (by omega) inL_len inL_one 8 Tryd.underlying72 infoIn w0.heap.size v L hs (hown.alloc _) _ _ c [y] hx (in_one w b hb ty y) (by simp only [List.length_cons, List.length_nil]; omega) (by simp only [List.length_cons, List.length_nil, maxLen]; omega) (by have := hS.below.size; simp; omega) (fun v' w' h9 hg hlt => h v' w' h9 hg (fun q hq => hown.lt hq) (since_grown (hS.alloc _) hg (fun k hk => (hlt k hk).1)))
end
end Go.Proofs.YteckkcpnfeoehaaDoor

/-
  Layer 7: readPlaces, walked, where all numbers are read.
-/
namespace Go.Proofs.YteckkcpnfeoehaaDoor
set_option maxRecDepth 100000
open Go.RowKit Go.ChangeShapes Go.WideShapes Go.Deep
set_option linter.unusedVariables false
set_option linter.unusedSimpArgs false

def andB (x : Int) (b : Int) (s : Bool) : Prop := decide (Has8 x b) = s ∧ bits .and .i64 x b = if s then b else 0

theorem and7_2 {x : Int} (h0 : 0 ≤ x) (h1 : x ≤ 255) : ∃ s, andB x 2 s := by
  have h := and_pow x 1 h0 (by omega) (by omega)
  simp only [Int.reducePow] at h
  refine ⟨decide (Has8 x 2), rfl, ?_⟩
  rw [h]; unfold Has8
  by_cases e : x / 2 % 2 = 1 <;> simp [e]

theorem and7_4 {x : Int} (h0 : 0 ≤ x) (h1 : x ≤ 255) : ∃ s, andB x 4 s := by
  have h := and_pow x 2 h0 (by omega) (by omega)
  simp only [Int.reducePow] at h
  refine ⟨decide (Has8 x 4), rfl, ?_⟩
  rw [h]; unfold Has8
  by_cases e : x / 4 % 2 = 1 <;> simp [e]

theorem and7_16 {x : Int} (h0 : 0 ≤ x) (h1 : x ≤ 255) : ∃ s, andB x 16 s := by
  have h := and_pow x 4 h0 (by omega) (by omega)
  simp only [Int.reducePow] at h
  refine ⟨decide (Has8 x 16), rfl, ?_⟩
  rw [h]; unfold Has8
  by_cases e : x / 16 % 2 = 1 <;> simp [e]

theorem and7_32 {x : Int} (h0 : 0 ≤ x) (h1 : x ≤ 255) : ∃ s, andB x 32 s := by
  have h := and_pow x 5 h0 (by omega) (by omega)
  simp only [Int.reducePow] at h
  refine ⟨decide (Has8 x 32), rfl, ?_⟩
  rw [h]; unfold Has8
  by_cases e : x / 32 % 2 = 1 <;> simp [e]


end Go.Proofs.YteckkcpnfeoehaaDoor

/-
  Layer 7: readFlags, walked (a goto inside a loop's round).
-/
namespace Go.Proofs.YteckkcpnfeoehaaDoor
set_option maxRecDepth 100000
open Go.RowKit Go.ChangeShapes Go.WideShapes Go.Deep
set_option linter.unusedVariables false
set_option linter.unusedSimpArgs false

theorem and7_8 {x : Int} (h0 : 0 ≤ x) (h1 : x ≤ 255) : bits .and .i64 x 8 = if Has8 x 8 then 8 else 0 := by
  have h := and_pow x 3 h0 (by omega) (by omega)
  simp only [Int.reducePow] at h
  rw [h]; unfold Has8; rfl
/-- What 'readFlags' leaves. -/
def FlPost7 (T : Fl7) (w : World) (e : Ending) (w' : World) : Prop := ∃ v, e = .returned (.tuple #[v, .int .i64 (T.p : Int), .int .i64 T.e]) ∧ OwnI w' w.heap.size v T.L ∧ Since w w'
theorem fl_no (f : Nat → Int) (n : Nat) : ∀ (k m p : Nat), (flGo f n k m p).e ≠ 0 → (flGo f n k m p).L = [] ∧ (flGo f n k m p).p = 0 := by
  intro k
  cases k with
  | zero => intro m p h; exact absurd rfl h
  | succ k =>
    intro m p h
    cases m with
    | zero => exact absurd rfl h
    | succ m =>
      rw [fl_cons] at h ⊢
      split at h
      · rw [if_pos (by assumption)]; exact ⟨rfl, rfl⟩
      · rw [if_neg (by assumption)]
        repeat' split
        all_goals first | exact ⟨rfl, rfl⟩ | skip
        all_goals simp_all
theorem flpost_no {f : Nat → Int} {n k m p : Nat} {T : Fl7} {w w' : World} {x : Int} (hT : T = flGo f n k m p) (he : T.e = x) (hx : x ≠ 0) (hS : Since w w') : FlPost7 T w (.returned (.tuple #[.slice none 0 0, .int .i64 0, .int .i64 x])) w' := by
  have h := fl_no f n k m p (by rw [← hT, he]; exact hx)
  rw [← hT] at h
  exact ⟨_, by rw [he, h.2]; rfl, by rw [h.1]; exact OwnG.nil _ _ _ _ _, hS⟩
def len7 (v : Value) : Nat := match v with
  | .slice _ n _ => n
  | _ => 0
def K7 (A : Option Addr) (n c : Nat) (x : Int) (m K : Nat) (g : Int) (L0 : List Int) (w0 : World) (a : Act) (w' : World) : Prop :=
  ∃ (k : Nat) (v : Value) (u6 u7 u8 u11 u15 u16 u17 u18 u19 u20 u21 u22 u23 u24 u25 u26 u27 u28 u29 u30 u31 u32 u33 u34 u35 u36 u37 u38 u39 u40 u41 u42 u43 u44 u45 u46 u47 u48 u49 u50 u51 u52 u53 u54 u55 u56 u57 u58 : Value), a = { tmps := #[.slice A n c, .int .i64 x, .int .i64 (m : Int), undef, undef, undef, u6, u7, u8, v, .int .i64 g, u11, .int .i64 (k : Int), .int .i64 (m : Int), .slice (some ⟨w0.heap.size, 0, none⟩) 0 m, u15, u16, u17, u18, u19, u20, u21, u22, u23, u24, u25, u26, u27, u28, u29, u30, u31, u32, u33, u34, u35, u36, u37, u38, u39, u40, u41, u42, u43, u44, u45, u46, u47, u48, u49, u50, u51, u52, u53, u54, u55, u56, u57, u58, undef, undef], defers := [] } ∧ OwnI w' w0.heap.size v (L0 ++ List.replicate (K - k) g) ∧ k < K ∧ Since w0 w'
def mu7 (a : Act) (_ : World) : Nat := (intOf (a.tmps.getD 12 undef)).toNat
theorem rep_more (L : List Int) (g : Int) (j : Nat) : (L ++ List.replicate j g) ++ [g] = L ++ List.replicate (j + 1) g := by
  rw [List.append_assoc, List.replicate_succ']
theorem k7_in {A : Option Addr} {n c m K k : Nat} {x : Int} {g : Int} {L0 M : List Int} {w0 w' : World} {v : Value} (hM : M = L0 ++ List.replicate (K - k) g) (hO : OwnI w' w0.heap.size v M) (hk : k < K) (hS : Since w0 w') (u6 u7 u8 u11 u15 u16 u17 u18 u19 u20 u21 u22 u23 u24 u25 u26 u27 u28 u29 u30 u31 u32 u33 u34 u35 u36 u37 u38 u39 u40 u41 u42 u43 u44 u45 u46 u47 u48 u49 u50 u51 u52 u53 u54 u55 u56 u57 u58 : Value) :
    K7 A n c x m K g L0 w0 { tmps := #[.slice A n c, .int .i64 x, .int .i64 (m : Int), undef, undef, undef, u6, u7, u8, v, .int .i64 g, u11, .int .i64 (k : Int), .int .i64 (m : Int), .slice (some ⟨w0.heap.size, 0, none⟩) 0 m, u15, u16, u17, u18, u19, u20, u21, u22, u23, u24, u25, u26, u27, u28, u29, u30, u31, u32, u33, u34, u35, u36, u37, u38, u39, u40, u41, u42, u43, u44, u45, u46, u47, u48, u49, u50, u51, u52, u53, u54, u55, u56, u57, u58, undef, undef], defers := [] } w' := by
  subst hM
  exact ⟨k, v, u6, u7, u8, u11, u15, u16, u17, u18, u19, u20, u21, u22, u23, u24, u25, u26, u27, u28, u29, u30, u31, u32, u33, u34, u35, u36, u37, u38, u39, u40, u41, u42, u43, u44, u45, u46, u47, u48, u49, u50, u51, u52, u53, u54, u55, u56, u57, u58, rfl, hO, hk, hS⟩
end Go.Proofs.YteckkcpnfeoehaaDoor

/-
  Layer 7: readEnds, walked.
-/
namespace Go.Proofs.YteckkcpnfeoehaaDoor
set_option maxRecDepth 100000
open Go.RowKit Go.ChangeShapes Go.WideShapes Go.Deep
set_option linter.unusedVariables false
set_option linter.unusedSimpArgs false

/-- Why contours' last points can't be read. -/
def endsE (f : Nat → Int) (n k : Nat) : Int :=
  if n < 10 + 2 * k then 3 else if ∃ i, i < k ∧ 0 < i ∧ en7 f i ≤ en7 f (i - 1) then 12 else if 4096 ≤ en7 f (k - 1) then 7 else 0
theorem rdA7_e {f : Nat → Int} {n k : Nat} (h : endsE f n k ≠ 0) : rdA7 f n k = no7 (endsE f n k) := by
  unfold endsE at h ⊢
  unfold rdA7
  by_cases h1 : n < 10 + 2 * k
  · rw [if_pos h1, if_pos h1]
  · rw [if_neg h1] at h ⊢
    rw [if_neg h1]
    by_cases h2 : ∃ i, i < k ∧ 0 < i ∧ en7 f i ≤ en7 f (i - 1)
    · rw [if_pos h2, if_pos h2]
    · rw [if_neg h2] at h ⊢
      rw [if_neg h2]
      by_cases h3 : 4096 ≤ en7 f (k - 1)
      · rw [if_pos h3, if_pos h3]
      · rw [if_neg h3] at h; exact absurd rfl h
theorem rdA7_o {f : Nat → Int} {n k : Nat} (h : endsE f n k = 0) : rdA7 f n k = rdB7 f n k (en7 f (k - 1) + 1).toNat ∧ 10 + 2 * k ≤ n ∧ (∀ i, i < k → 0 < i → en7 f (i - 1) < en7 f i) ∧ en7 f (k - 1) < 4096 := by
  unfold endsE at h
  unfold rdA7
  by_cases h1 : n < 10 + 2 * k
  · rw [if_pos h1] at h; cases h
  · rw [if_neg h1] at h
    rw [if_neg h1]
    by_cases h2 : ∃ i, i < k ∧ 0 < i ∧ en7 f i ≤ en7 f (i - 1)
    · rw [if_pos h2] at h; cases h
    · rw [if_neg h2] at h
      rw [if_neg h2]
      by_cases h3 : 4096 ≤ en7 f (k - 1)
      · rw [if_pos h3] at h; cases h
      · rw [if_neg h3]
        refine ⟨rfl, by omega, fun i h4 h5 => ?_, by omega⟩
        rcases Int.lt_or_le (en7 f (i - 1)) (en7 f i) with h6 | h6
        · exact h6
        · exact absurd ⟨i, h4, h5, h6⟩ h2
def EndsPost (f : Nat → Int) (n k : Nat) (w : World) (e : Ending) (w' : World) : Prop :=
  Since w w' ∧ ((endsE f n k ≠ 0 ∧ e = .returned (.tuple #[.slice none 0 0, .int .i64 (endsE f n k)])) ∨ (endsE f n k = 0 ∧ ∃ b, e = .returned (.tuple #[.slice (some ⟨b, 0, none⟩) k k, .int .i64 0]) ∧ w.heap.size ≤ b ∧ Rd w' w'.heap.size (some ⟨b, 0, none⟩) k (I64 (en7 f))))
theorem endspost_no {f : Nat → Int} {n k : Nat} {w w' : World} {x : Int} (hx : endsE f n k = x) (h0 : x ≠ 0) (hS : Since w w') : EndsPost f n k w (.returned (.tuple #[.slice none 0 0, .int .i64 x])) w' := by
  subst hx
  exact ⟨hS, .inl ⟨h0, rfl⟩⟩
end Go.Proofs.YteckkcpnfeoehaaDoor

/-
  Layer 7: divide, walked: points cut into contours.
-/
namespace Go.Proofs.YteckkcpnfeoehaaDoor
set_option maxRecDepth 100000
open Go.RowKit Go.ChangeShapes Go.WideShapes Go.Deep
set_option linter.unusedVariables false
set_option linter.unusedSimpArgs false

/-- The first point of contour j. -/
def st7 (e : Nat → Int) (j : Nat) : Int := if j = 0 then 0 else e (j - 1) + 1
/-- Contour j of points. -/
def seg7 (e : Nat → Int) (K : List Kt) (j : Nat) : List Kt := (K.take (e j + 1).toNat).drop (st7 e j).toNat
theorem cutE7_seg (K : List Kt) : ∀ (m a : Nat) (e : Nat → Int), (cutE7 (st7 e a).toNat ((List.range' a m).map e) K) = (List.range' a m).map (seg7 e K) := by
  intro m
  induction m with
  | zero => intro a e; rfl
  | succ m ih =>
    intro a e
    rw [List.range'_succ, List.map_cons, List.map_cons]
    unfold cutE7
    have h := ih (a + 1) e
    have es : st7 e (a + 1) = e a + 1 := by unfold st7; rw [if_neg (by omega), Nat.add_sub_cancel]
    rw [es] at h
    rw [h]
    rfl
theorem cutE7_all2 (K : List Kt) (m : Nat) (e : Nat → Int) : cutE7 0 ((List.range m).map e) K = (List.range m).map (seg7 e K) := by
  have h := cutE7_seg K m 0 e
  have e0 : (st7 e 0).toNat = 0 := by unfold st7; rw [if_pos rfl]; rfl
  rw [e0] at h
  rw [List.range_eq_range']
  exact h
theorem seg7_len {e : Nat → Int} {K : List Kt} {j : Nat} (h0 : 0 ≤ st7 e j) (h1 : st7 e j ≤ e j) (h2 : e j + 1 ≤ (K.length : Int)) : ((seg7 e K j).length : Int) = e j + 1 - st7 e j := by
  unfold seg7
  rw [List.length_drop, List.length_take]
  omega
end Go.Proofs.YteckkcpnfeoehaaDoor

/-
  Layer 7: readPlaces, walked, where a number can't be read.
-/
namespace Go.Proofs.YteckkcpnfeoehaaDoor
set_option maxRecDepth 100000
open Go.RowKit Go.ChangeShapes Go.WideShapes Go.Deep
set_option linter.unusedVariables false
set_option linter.unusedSimpArgs false


end Go.Proofs.YteckkcpnfeoehaaDoor
