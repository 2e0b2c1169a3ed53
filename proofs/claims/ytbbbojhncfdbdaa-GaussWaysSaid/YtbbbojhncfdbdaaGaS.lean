/-
  Layer 10: three own rows of points beside one another; append of one point in a region that draws its order.
-/
import Derived.Test.YtbbbojhncfdbdaaGaR
import Derived.Test.YtbbbojhncfdbdaaGaN
namespace Go.Proofs.Ytbbbojhncfdbdaa
open Go.RowKit Go.ChangeShapes Go.WideShapes Go.Deep
set_option linter.unusedVariables false

section
variable {w w' : World} {base n : Nat} {e : TypeId} {v : Value} {xs : List Value}
theorem ownp_lt {g : Nat} (h : w.ownsRow base e 2 v n xs) (hg : v.ownBlock = some g) : g < w.heap.size := by
  rcases h.2 with ⟨rfl, _⟩ | ⟨g', c', cur, rfl, _, hh, _⟩
  · cases hg
  · simp only [Value.ownBlock, Option.some.injEq] at hg
    subst hg
    rcases Nat.lt_or_ge g' w.heap.size with hlt | hge
    · exact hlt
    · rw [Array.getElem?_eq_none hge] at hh; cases hh
theorem ownp_keep {row : Option Nat} (h : w.ownsRow base e 2 v n xs) (hg : w.grownBy w' row) (hd : ∀ k, v.ownBlock = some k → row ≠ some k) : w'.ownsRow base e 2 v n xs := by
  have h0 := h
  refine ⟨h.1, ?_⟩
  rcases h.2 with h0 | ⟨g, cap, cur, e1, hb, hh, r⟩
  · exact .inl h0
  · refine .inr ⟨g, cap, cur, e1, hb, ?_, r⟩
    have hlt : g < w.heap.size := ownp_lt h0 (by rw [e1]; rfl)
    have hne := hd g (by rw [e1]; rfl)
    rw [hg.block g hlt (fun x => hne (by first | exact x | exact x.symm))]
    exact hh
theorem ownp_base {g : Nat} (h : w.ownsRow base e 2 v n xs) (hg : v.ownBlock = some g) : base ≤ g := by
  rcases h.2 with ⟨rfl, _⟩ | ⟨g', c', cur, rfl, hb, _⟩
  · cases hg
  · simp only [Value.ownBlock, Option.some.injEq] at hg
    omega
theorem ownp_since (h : w.ownsRow base e 2 v n xs) (k : Since w w') : w'.ownsRow base e 2 v n xs := by
  have h0 := h
  refine ⟨h.1, ?_⟩
  rcases h.2 with h0 | ⟨g, cap, cur, e1, hb, hh, r⟩
  · exact .inl h0
  · refine .inr ⟨g, cap, cur, e1, hb, ?_, r⟩
    have hlt : g < w.heap.size := ownp_lt h0 (by rw [e1]; rfl)
    rw [k.below.block g hlt]
    exact hh
end
theorem join_same (f : Nat → Int) (n : Nat) : ∀ j, j < n + 1 → joinP n f (fun _ => f n) j = f j := fun j hj => by
  unfold joinP
  split
  · rfl
  · rw [show j = n by omega]
theorem ptv_congr {X Y U V : Nat → Int} {n : Nat} (h : ∀ j, j < n → X j = U j) (h' : ∀ j, j < n → Y j = V j) : tab (n * 2) (PtV X Y) = tab (n * 2) (PtV U V) := by
  refine tab_congr fun j hj => ?_
  unfold PtV
  split
  · rw [h _ (by omega)]
  · rw [h' _ (by omega)]
/-- Two values do not share their block. -/
def Apart (v u : Value) : Prop := ∀ k, v.ownBlock = some k → u.ownBlock ≠ some k
theorem Apart.symm {v u : Value} (h : Apart v u) : Apart u v := fun k h1 h2 => h k h2 h1
/-- Three own rows of points, apart. -/
def Three (w : World) (base : Nat) (p q r : Value) (np nq nr : Nat) (X Y U V S T : Nat → Int) : Prop :=
  w.ownsRow base 23 2 p np (tab (np * 2) (PtV X Y)) ∧ w.ownsRow base 23 2 q nq (tab (nq * 2) (PtV U V)) ∧ w.ownsRow base 23 2 r nr (tab (nr * 2) (PtV S T)) ∧ Apart p q ∧ Apart q r ∧ Apart r p
section
variable {w w' : World} {base np nq nr : Nat} {p q r p' : Value} {X Y U V S T X' Y' : Nat → Int}
theorem Three.since (h : Three w base p q r np nq nr X Y U V S T) (k : Since w w') : Three w' base p q r np nq nr X Y U V S T := ⟨ownp_since h.1 k, ownp_since h.2.1 k, ownp_since h.2.2.1 k, h.2.2.2⟩
theorem Three.alloc (h : Three w base p q r np nq nr X Y U V S T) (o : Obj) : Three (w.alloc o) base p q r np nq nr X Y U V S T := h.since ((Since.refl w).alloc o)
theorem Three.drew (h : Three w base p q r np nq nr X Y U V S T) : Three w.drew base p q r np nq nr X Y U V S T := h
theorem Three.rot (h : Three w base p q r np nq nr X Y U V S T) : Three w base q r p nq nr np U V S T X Y := ⟨h.2.1, h.2.2.1, h.1, h.2.2.2.2.1, h.2.2.2.2.2, h.2.2.2.1⟩
theorem Three.grow (h : Three w base p q r np nq nr X Y U V S T) {m : Nat} (h' : w'.ownsRow base 23 2 p' m (tab (m * 2) (PtV X' Y'))) (hg : w.grownBy w' p.ownBlock) (hb : p'.ownBlock = p.ownBlock ∨ p'.ownBlock = some w.heap.size) :
    Three w' base p' q r m nq nr X' Y' U V S T := by
  obtain ⟨h1, h2, h3, a1, a2, a3⟩ := h
  refine ⟨h', ownp_keep h2 hg (fun k hk e => a1 k e hk), ownp_keep h3 hg (fun k hk e => a3 k hk e), fun k hk => ?_, a2, fun k hk => ?_⟩
  · rcases hb with e | e
    · exact a1 k (e ▸ hk)
    · rw [e] at hk
      injection hk with hk
      subst hk
      exact fun e2 => absurd (ownp_lt h2 e2) (Nat.lt_irrefl _)
  · rcases hb with e | e
    · rw [e]; exact a3 k hk
    · rw [e]
      intro e2
      injection e2 with e2
      subst e2
      exact absurd (ownp_lt h3 hk) (Nat.lt_irrefl _)
theorem Three.congr {X' Y' U' V' S' T' : Nat → Int} (h : Three w base p q r np nq nr X Y U V S T) (e1 : ∀ j, j < np → X j = X' j) (e2 : ∀ j, j < np → Y j = Y' j) (e3 : ∀ j, j < nq → U j = U' j) (e4 : ∀ j, j < nq → V j = V' j) (e5 : ∀ j, j < nr → S j = S' j) (e6 : ∀ j, j < nr → T j = T' j) :
    Three w base p q r np nq nr X' Y' U' V' S' T' := by
  unfold Three
  rw [← ptv_congr e1 e2, ← ptv_congr e3 e4, ← ptv_congr e5 e6]
  exact h
end
section
variable {P : Program} (w : World)
theorem run_append_ptb (base : Nat) (t ty e : TypeId) (i : TypeInfo) (z : Value) (bytes : Nat) (ht : P.underlying t = some (.slice e)) (hi : P.info? e = some i) (hz : i.zero = some z)
    (hsize : i.size = 2) (hby : i.bytes = bytes) (hzs : z.cells.size = 2) (v : Value) (n : Nat) (xs : List Value) (hown : w.ownsRow base e 2 v n xs)
    (B : Nat) (A : Option Addr) (m c : Nat) (X Y : Nat → Int) (hr : RdP w B A m X Y) (hbytes : (n + m) * bytes ≤ 140737488355328) (h63 : n + m ≤ maxLen) (hbase : base ≤ w.heap.size) :
    ∃ v' w', (Builtin.append_ #[t, t] ty #[v, .slice A m c]).run P w = .ok v' w' ∧ w'.ownsRow base e 2 v' (n + m) (xs ++ tab (m * 2) (PtV X Y)) ∧ w.grownBy w' v.ownBlock ∧ (v'.ownBlock = v.ownBlock ∨ v'.ownBlock = some w.heap.size) := by
  rcases A with _ | ad
  · have hm : m = 0 := by
      rcases Nat.eq_zero_or_pos m with h0 | h0
      · exact h0
      · obtain ⟨b, o, h, _⟩ := hr h0; cases h
    subst hm
    refine ⟨v, w, ?_, by simpa [tab_zero] using hown, World.grownBy.refl w _, .inl rfl⟩
    rcases hown.2 with ⟨rfl, hn⟩ | ⟨g, cap, cur, rfl, _, _, hnc, _⟩
    · subst hn
      simp [Builtin.append_, run_underlying ht, sizeOf, typeInfo, hi, Builtin.lenOf, Builtin.firstCells]
    · simp [Builtin.append_, run_underlying ht, sizeOf, typeInfo, hi, Builtin.lenOf, Builtin.firstCells, hnc, storeCells]
  · have hc : ∀ j u, (tab (m * 2) (PtV X Y))[j]? = some u → w.cell? (ad.add j) = some u := by
      intro j u hu
      rw [tab_get] at hu
      split at hu
      · rename_i hj
        obtain ⟨b, o, h, _, hc⟩ := hr (by omega)
        injection h with h; subst h; injection hu with hu; subst hu
        rw [add_plain]
        obtain ⟨h1, h2⟩ := hc (j / 2) (by omega)
        unfold PtV
        by_cases hp : j % 2 = 0
        · rw [if_pos hp, ← h1, show o + j / 2 * 2 = o + j by omega]
        · rw [if_neg hp, ← h2, show o + j / 2 * 2 + 1 = o + j by omega]
      · cases hu
    have h1 : ∀ u ∈ tab (m * 2) (PtV X Y), u.oneCell' = true := by
      intro u hu
      unfold tab at hu
      obtain ⟨k, _, rfl⟩ := List.mem_map.1 hu
      rfl
    obtain ⟨v', w', hrun, h2, h3, _, h5⟩ := run_append_own_at (P := P) w base t ty e i z 2 bytes ht hi hz hsize hby hzs (by omega) v n xs hown ad m c (tab (m * 2) (PtV X Y)) (by rw [tab_len]) hc h1 h63 hbytes hbase
    exact ⟨v', w', hrun, h2, h3, h5⟩
/-- append of one point, just built, as an operation of a region: three rows stay three rows, the first one a point longer. -/
theorem oper_append_three {o : Oper} {a : Act} {K : Act → World → Prop} {Q : Exit → Act → World → Prop} (s x : Operand) (t : TypeId)
    (ho : o.op = .call { callee := .builtin .append, args := #[s, x], argTypes := #[t, t] })
    (base : Nat) (i : TypeInfo) (z : Value) (ht : P.underlying t = some (.slice 23)) (hi : P.info? 23 = some i) (hz : i.zero = some z)
    (hsize : i.size = 2) (hby : i.bytes = 16) (hzs : z.cells.size = 2) (p : Value) (n : Nat) (X Y : Nat → Int) (hs : a.eval s = p) (h3 : w.ownsRow base 23 2 p n (tab (n * 2) (PtV X Y)))
    (b : Nat) (c : Nat) (u v : Int) (hx : a.eval x = .slice (some ⟨b, 0, none⟩) 1 c) (h0 : w.cell? ⟨b, 0, none⟩ = some (.int .i64 u)) (h1 : w.cell? ⟨b, 1, none⟩ = some (.int .i64 v)) (hn : n ≤ 1000) (hbase : base ≤ w.heap.size)
    (h : ∀ v' w', w'.ownsRow base 23 2 v' (n + 1) (tab ((n + 1) * 2) (PtV (joinP n X (fun _ => u)) (joinP n Y (fun _ => v)))) → w.grownBy w' p.ownBlock → (v'.ownBlock = p.ownBlock ∨ v'.ownBlock = some w.heap.size) → K (a.put o.dst v') w') :
    Oper.wp P o a w K Q := by
  have hb : b < w.heap.size := by
    rcases Nat.lt_or_ge b w.heap.size with hlt | hge
    · exact hlt
    · simp [World.cell?, Array.getElem?_eq_none hge] at h0
  have hr : RdP w w.heap.size (some ⟨b, 0, none⟩) 1 (fun _ => u) (fun _ => v) := fun _ => ⟨b, 0, rfl, hb, fun j hj => by
    obtain rfl : j = 0 := by omega
    exact ⟨h0, h1⟩⟩
  obtain ⟨v', w', hrun, h2, h4, h5⟩ := run_append_ptb (P := P) w base t o.type 23 i z 16 ht hi hz hsize hby hzs p n _ h3 _ _ 1 c _ _ hr (by omega) (by simp only [maxLen]; omega) hbase
  rw [tab_join] at h2
  unfold Oper.wp execOp
  simp only [ho, resolve, invoke, builtin, Sem.run_bind, Sem.run_pure, Result.andThen_ok, List.map_toArray, List.map_cons, List.map_nil, hs, hx, hrun]
  exact h _ _ h2 h4 h5
end
end Go.Proofs.Ytbbbojhncfdbdaa
