/-
  Outlines that a call has made, each contour in a block of its own: Copy; a knot's numbers written in place.
-/
import Derived.Test.YtpplnapfpoloiaaOuZ
import Derived.Test.YtpplnapfpoloiaaKitQ
import Derived.Test.YtpplnapfpoloiaaKitY
namespace Go.Proofs.Ytpplnapfpoloiaa
open Go.RowKit Go.ChangeShapes Go.WideShapes Go.Deep
set_option linter.unusedVariables false
set_option linter.unusedSimpArgs false

abbrev hdV (h : Hd) : Value := .slice h.A h.n h.c
/-- An outline that a call has made, its contours apart, in blocks below b0. -/
def OwnD (w : World) (base b0 : Nat) (v : Value) (LL : List (List Kt)) : Prop :=
  ∃ hs : List Hd, hs.length = LL.length ∧ OwnG 71 1 hdL w base v hs ∧ (∀ (j : Nat) h L, hs[j]? = some h → LL[j]? = some L → OwnK w base (hdV h) L) ∧
    (∀ (i j : Nat) a b, hs[i]? = some a → hs[j]? = some b → i ≠ j → ∀ q, (hdV a).ownBlock = some q → (hdV b).ownBlock ≠ some q) ∧ (∀ (j : Nat) h q, hs[j]? = some h → (hdV h).ownBlock = some q → q < b0)
section
variable {w w' : World} {base b0 b1 : Nat} {v : Value} {LL : List (List Kt)}
theorem OwnD.nil (w : World) (base b0 : Nat) : OwnD w base b0 (.slice none 0 0) [] := ⟨[], rfl, OwnG.nil _ _ _ _ _, fun j h L h1 h2 => by simp at h1, fun i j a b h => by simp at h, fun j h q h1 => by simp at h1⟩
theorem OwnD.since (h : OwnD w base b0 v LL) (k : Since w w') : OwnD w' base b0 v LL := by
  obtain ⟨hs, h1, h2, h3, h4, h5⟩ := h
  exact ⟨hs, h1, h2.since k, fun j x L a b => (h3 j x L a b).since k, h4, h5⟩
theorem OwnD.more (h : OwnD w base b0 v LL) (k : b0 ≤ b1) : OwnD w base b1 v LL := by
  obtain ⟨hs, h1, h2, h3, h4, h5⟩ := h
  exact ⟨hs, h1, h2, h3, h4, fun j x q a b => Nat.lt_of_lt_of_le (h5 j x q a b) k⟩
theorem OwnD.o (h : OwnD w base b0 v LL) : OwnO w base v LL := by
  obtain ⟨hs, h1, h2, h3, h4, h5⟩ := h
  exact ⟨hs, h1, h2, h3⟩
theorem OwnD.keepB (h : OwnD w base b0 v LL) (hk : ∀ b, base ≤ b → b < w.heap.size → w'.heap[b]? = w.heap[b]?) : OwnD w' base b0 v LL := by
  obtain ⟨hs, h1, h2, h3, h4, h5⟩ := h
  exact ⟨hs, h1, h2.keep hk, fun j x L a b => (h3 j x L a b).keep hk, h4, h5⟩
end
/-- append of one contour's header, just built: the contour lies from b0 on. -/
theorem wpList_append_hdD {w : World} {ops : Array Oper} {rest : List Oper} {o : Oper} {a : Act} {Q : Exit → Act → World → Prop} (hgd : o.guard = none) (s x : Operand)
    (ho : o.op = .call { callee := .builtin .append, args := #[s, x], argTypes := #[50, 50] })
    (base b0 : Nat) (v : Value) (LL : List (List Kt)) (hs : a.eval s = v) (hown : OwnD w base b0 v LL) (b c : Nat) (A' : Option Addr) (n' c' : Nat) (L : List Kt) (hx : a.eval x = .slice (some ⟨b, 0, none⟩) 1 c) (ty : TypeId) (hb : b = w.heap.size) (hrow : OwnK w b0 (.slice A' n' c') L) (hbb : base ≤ b0) (hL : LL.length ≤ 1000000) (hbase : base ≤ w.heap.size)
    (h : ∀ v' w', OwnD w' base w'.heap.size v' (LL ++ [L]) → (w.alloc (.cells #[.slice A' n' c'] ty)).grownBy w' v.ownBlock → (∀ q, v.ownBlock = some q → base ≤ q ∧ q < w.heap.size) → wpList Try.prog ops Q rest (a.put o.dst v') w') :
    wpList Try.prog ops Q (o :: rest) a (w.alloc (.cells #[.slice A' n' c'] ty)) := by
  obtain ⟨hh, hl, ho', hK, hD, hlt⟩ := hown
  have hne : 71 ≠ 76 := by decide
  refine wpList_append_g hgd s x 50 71 ho (by omega) hdL_len hdL_one 24 Try.underlying50 infoCt base v hh hs (ho'.alloc _) _ _ c [⟨A', n', c'⟩] hx (hd_one w b hb ty ⟨A', n', c'⟩) (by simp only [List.length_cons, List.length_nil]; omega) (by simp only [List.length_cons, List.length_nil, maxLen]; omega) (by simp; omega) (fun v' w' h9 hg hq => h v' w' ?_ hg (fun q e => ho'.lt e))
  have hget : ∀ (j : Nat) (y : Hd), (hh ++ [⟨A', n', c'⟩])[j]? = some y → (hh[j]? = some y ∧ j < hh.length) ∨ (j = hh.length ∧ y = ⟨A', n', c'⟩) := fun j y hj => by
    by_cases hjl : j < hh.length
    · rw [List.getElem?_append_left hjl] at hj; exact .inl ⟨hj, hjl⟩
    · rw [List.getElem?_append_right (by omega)] at hj
      have e : j - hh.length = 0 := by
        rcases Nat.eq_zero_or_pos (j - hh.length) with h | h
        · exact h
        · rw [List.getElem?_eq_none (by simp; omega)] at hj; cases hj
      rw [e] at hj
      simp only [List.getElem?_cons_zero, Option.some.injEq] at hj
      exact .inr ⟨by omega, hj.symm⟩
  have hrowK : OwnK w' b0 (.slice A' n' c') L := OwnG.grown (hrow.alloc _) hg (fun q hq e => own_apart ho' hrow hne e hq)
  refine ⟨hh ++ [⟨A', n', c'⟩], by simp [hl], h9, fun j y M h1 h2 => ?_, fun i j a b h1 h2 hij q h3 h4 => ?_, fun j y q h1 h2 => ?_⟩
  · rcases hget j y h1 with ⟨h1, hjl⟩ | ⟨rfl, rfl⟩
    · rw [List.getElem?_append_left (by omega)] at h2
      have hk := hK j y M h1 h2
      exact OwnG.grown (hk.alloc (.cells #[.slice A' n' c'] ty)) hg (fun q hq e => own_apart ho' hk hne e hq)
    · rw [hl, List.getElem?_append_right (Nat.le_refl _), Nat.sub_self] at h2
      simp only [List.getElem?_cons_zero, Option.some.injEq] at h2
      subst h2
      exact OwnG.low hrowK hbb
  · rcases hget i a h1 with ⟨h1, hil⟩ | ⟨rfl, rfl⟩
    · rcases hget j b h2 with ⟨h2, hjl⟩ | ⟨rfl, rfl⟩
      · exact hD i j a b h1 h2 hij q h3 h4
      · have := hlt i a q h1 h3
        have := (OwnG.lt hrow h4).1
        omega
    · rcases hget j b h2 with ⟨h2, hjl⟩ | ⟨rfl, rfl⟩
      · have := hlt j b q h2 h4
        have := (OwnG.lt hrow h3).1
        omega
      · exact hij rfl
  · rcases hget j y h1 with ⟨h1, hjl⟩ | ⟨rfl, rfl⟩
    · have h3 := hlt j y q h1 h2
      have hj2 : j < LL.length := by omega
      have hk := OwnG.lt (hK j y _ h1 (List.getElem?_eq_getElem hj2)) h2
      have := hg.size
      simp at this
      omega
    · exact (OwnG.lt hrowK h2).2
set_option maxRecDepth 100000 in
set_option maxHeartbeats 8000000 in
theorem rf_copyD (A : Option Addr) (c : Nat) (LL : List (List Kt)) (w : World) (h : RdOL w w.heap.size A LL) (hn : LL.length ≤ 1000000) (hm : ∀ L, L ∈ LL → L.length ≤ 1000000) :
    Calls Try.prog 37 #[.slice A LL.length c] w fun e w' => ∃ A' c', e = .returned (.slice A' LL.length c') ∧ OwnD w' w.heap.size w'.heap.size (.slice A' LL.length c') LL ∧ Since w w' := by
  obtain ⟨N, hN⟩ : ∃ N, N = LL.length := ⟨_, rfl⟩
  rw [← hN] at hn ⊢
  have HN := Lib.hid hN
  have HM := Lib.hid hm
  clear hN hm
  go_enter Try.func37, Try.ntmps37
  go_wp2_with fail
  go_loopw [3, 8] (fun v y wr => ∃ (j : Nat), j ≤ N ∧ y = .int .i64 (j : Int) ∧ OwnD wr w.heap.size wr.heap.size v (LL.take j) ∧ Since w wr) (fun _ y _ => N - (intOf y).toNat)
  case atStart => exact ⟨0, by omega, rfl, OwnD.nil _ _ _, Since.refl _⟩
  case round =>
    obtain ⟨j, hj, rfl, hO, hS⟩ := hrel
    by_cases hjn : j < N
    · have hjn' : (j : Int) < N := by omega
      have hjL : j < LL.length := by rw [← HN.out]; exact hjn
      have hL : LL[j]? = some LL[j] := List.getElem?_eq_getElem hjL
      have hml := HM.out _ (List.mem_of_getElem? hL)
      have htk : LL.take (j + 1) = LL.take j ++ [LL[j]] := List.take_succ_eq_append_getElem hjL
      have HTK := Lib.hid htk
      have hlt : (LL.take j).length ≤ 1000000 := by rw [List.length_take]; omega
      clear htk
      generalize LL[j] = L at *
      obtain ⟨b, o, A', c', rfl, hb, hcell, hK⟩ := h.row hL
      have c1 := (hS.1 _ _ hb).trans hcell
      have hbw := hS.2.2.1 _ hb
      have hK := (hK.since (Nat.le_refl _) hS).more hS.below.size
      have hwz := hS.below.size
      clear hL h hcell hjL
      generalize LL.take j = LJ at *
      go_wp2_with (first | (at_builtin; refine wpList_append_g rfl (.tmp 13) (.tmp 14) 71 76 rfl (by omega) knL_len knL_one 24 Try.underlying71 infoKn wr.heap.size _ [] rfl (OwnG.empty _ wr wr.heap.size _ rfl (Nat.le_refl _)) _ A' c' L rfl (hK.on ((Since.refl wr).alloc _)) ?_ ?_ ?_ ?_; (focus (rw [List.length_nil]; omega)); (focus (rw [List.length_nil]; simp only [maxLen]; omega)); (focus (simp)); intro v7 w7 hO7 hg7 hb7; have hS7 : Since wr w7 := (since_grown ((Since.refl wr).alloc _) hg7 (fun q hq => Nat.le_of_eq (Option.some.inj hq))); rw [List.nil_append] at hO7; obtain ⟨A7, c7, rfl, hc7, hr7⟩ := hO7.rd (by omega) knL_len; have hOO := hO.since hS7; have hwz7 := hS7.below.size; clear hr7 hg7 hb7) | (at_builtin; refine wpList_append_hdD rfl _ _ rfl w.heap.size wr.heap.size _ LJ rfl hOO _ 1 A7 L.length c7 L rfl _ rfl hO7 hwz hlt (by omega) ?_; intro v8 w8 hO8 hg8 hb8; have hS8 : Since w w8 := (since_grown ((hS.trans hS7).alloc _) hg8 (fun q hq => (hb8 q hq).1))))
      go_roundw
      case rel => exact ⟨j + 1, by omega, by go_num, by rw [HTK.out]; exact hO8, hS8⟩
      case measure => simp [intOf]; omega
    · obtain rfl : N = j := by omega
      have e : LL.take N = LL := by rw [HN.out]; exact List.take_length
      rw [e] at hO
      obtain ⟨A', c', rfl, hc', hr⟩ := hO.o.rd
      have HOO := Lib.hid hO
      rw [← HN.out]
      go_wp2_with fail
      go_ret
      exact ⟨A', c', rfl, (by have := HOO.out; rw [← HN.out] at this; exact this), hS⟩
theorem cellsK_set2 : ∀ (L : List Kt) (i : Nat) (k : Kt) (x y : Int), L[i]? = some k → ((cellsG knL L).set (i * 3) (.int .i64 x)).set (i * 3 + 1) (.int .i64 y) = cellsG knL (L.set i ⟨x, y, k.o⟩)
  | [], i, k, x, y, h => by simp at h
  | k :: L, 0, k', x, y, h => by simp at h; subst h; simp [cellsG, knL]
  | k :: L, i + 1, k', x, y, h => by
    have ih := cellsK_set2 L i k' x y (by simpa using h)
    have e0 : cellsG knL (k :: L) = knL k ++ cellsG knL L := by simp [cellsG]
    have e1 : cellsG knL ((k :: L).set (i + 1) ⟨x, y, k'.o⟩) = knL k ++ cellsG knL (L.set i ⟨x, y, k'.o⟩) := by simp [cellsG]
    have el : (knL k).length = 3 := rfl
    rw [e0, e1, ← ih, show (i + 1) * 3 = (knL k).length + i * 3 by rw [el]; omega, set_app, Nat.add_assoc, set_app]
theorem OwnK.put2 {w : World} {base q n c : Nat} {L : List Kt} (h : OwnK w base (.slice (some ⟨q, 0, none⟩) n c) L) (i : Nat) (k : Kt) (x y : Int) (hi : L[i]? = some k) :
    OwnK ((w.setCell ⟨q, i * 3, none⟩ (.int .i64 x)).setCell ⟨q, i * 3 + 1, none⟩ (.int .i64 y)) base (.slice (some ⟨q, 0, none⟩) n c) (L.set i ⟨x, y, k.o⟩) := by
  have hn : n = L.length := by
    rcases h.2 with ⟨h0, _⟩ | ⟨g, cap, cur, h0, _⟩
    · cases h0
    · injection h0 with _ h1 _
  subst hn
  have h3 := (World.ownsRow.stored (World.ownsRow.stored h (i * 3) (.int .i64 x)).1 (i * 3 + 1) (.int .i64 y)).1
  rw [cellsK_set2 L i k x y hi] at h3
  unfold OwnK OwnG
  rw [List.length_set]
  exact h3
/-- A contour of it, and a knot: where it lies, and what a knot written in place makes of it. -/
theorem OwnD.row {w : World} {base b0 : Nat} {v : Value} {LL : List (List Kt)} (h : OwnD w base b0 v LL) {j : Nat} {L : List Kt} (hj : LL[j]? = some L) : ∃ g c A' c', v = .slice (some ⟨g, 0, none⟩) LL.length c ∧ base ≤ g ∧ g < w.heap.size ∧ w.cell? ⟨g, j, none⟩ = some (.slice A' L.length c') ∧
    (0 < L.length → ∃ q, A' = some ⟨q, 0, none⟩ ∧ base ≤ q ∧ q < w.heap.size ∧ q < b0 ∧ g ≠ q ∧ ∀ (i : Nat) k, L[i]? = some k → w.cell? ⟨q, i * 3, none⟩ = some (.int .i64 k.x) ∧ w.cell? ⟨q, i * 3 + 1, none⟩ = some (.int .i64 k.y) ∧ w.frozen? ⟨q, i * 3, none⟩ = false ∧ w.frozen? ⟨q, i * 3 + 1, none⟩ = false ∧
      ∀ x y, OwnD ((w.setCell ⟨q, i * 3, none⟩ (.int .i64 x)).setCell ⟨q, i * 3 + 1, none⟩ (.int .i64 y)) base b0 v (LL.set j (L.set i ⟨x, y, k.o⟩))) := by
  obtain ⟨hs, hl, ho, hK, hD, hlt⟩ := h
  have hne : 76 ≠ 71 := by decide
  have hjl : j < LL.length := by
    rcases Nat.lt_or_ge j LL.length with h | h
    · exact h
    · rw [List.getElem?_eq_none h] at hj; cases hj
  have h1 : hs[j]? = some hs[j] := List.getElem?_eq_getElem (by omega)
  have hM := hK j _ L h1 hj
  generalize hs[j] = x at *
  obtain ⟨A, c, rfl, _, hr⟩ := OwnG.rd (by omega) hdL_len ho
  rcases ho.2 with ⟨h0, h0'⟩ | ⟨g, cap, cur, h0, hbg, _⟩
  · omega
  · injection h0 with h0 h0a h0b
    subst h0
    obtain ⟨b, o, e1, hb, hc⟩ := hr (by omega)
    injection e1 with e1
    injection e1 with e1 e2
    subst e1 e2
    obtain ⟨A2, c2, e3, _, hr2⟩ := OwnG.rd (by omega) knL_len hM
    have e3' := e3
    injection e3 with e3 e4 e5
    have h3 := hc j x h1 0 (by omega)
    rw [Nat.zero_add, Nat.mul_one, Nat.add_zero] at h3
    refine ⟨g, c, x.A, x.c, by rw [hl], hbg, hb, by rw [h3, ← e4]; rfl, fun hi0 => ?_⟩
    obtain ⟨q, o2, e6, hq, hc2⟩ := hr2 (by omega)
    rcases hM.2 with ⟨h7, h7'⟩ | ⟨g', cap', cur', h7, hb', _⟩
    · omega
    · have h7o := h7
      injection h7 with h7 h7a h7b
      rw [e3, e6] at h7
      injection h7 with h7
      injection h7 with h7 h8
      subst h7 h8
      have hA : x.A = some ⟨q, 0, none⟩ := by rw [e3, e6]
      have hor : w.ownsRow base 76 3 (.slice (some ⟨q, 0, none⟩) L.length x.c) L.length (cellsG knL L) := by
        have := hM
        unfold OwnK OwnG hdV at this
        rw [hA, e4] at this
        exact this
      have hMq : OwnK w base (.slice (some ⟨q, 0, none⟩) x.n x.c) L := by have := hM; unfold hdV at this; rw [hA] at this; exact this
      have hgq : g ≠ q := fun eg => own_apart ho hM hne.symm (q := g) rfl (by unfold hdV; rw [hA, eg]; rfl)
      refine ⟨q, hA, hb', hq, hlt j x q h1 (by unfold hdV; rw [hA]; rfl), hgq, fun i k hi => ?_⟩
      have h9 := hc2 i _ hi 0 (by omega)
      have h10 := hc2 i _ hi 1 (by omega)
      rw [Nat.zero_add] at h9 h10
      rw [Nat.add_zero] at h9
      refine ⟨h9, h10, World.ownsRow.frozenAt hor _, World.ownsRow.frozenAt hor _, fun X Y => ?_⟩
      have hkb : KeepBut q w ((w.setCell ⟨q, i * 3, none⟩ (.int .i64 X)).setCell ⟨q, i * 3 + 1, none⟩ (.int .i64 Y)) := ((KeepBut.refl q w).set _ _).set _ _
      refine ⟨hs, by rw [List.length_set]; exact hl, OwnG.but ho hkb (own_apart hMq ho hne rfl), fun t y M a1 a2 => ?_, hD, hlt⟩
      by_cases htj : t = j
      · subst htj
        rw [h1] at a1
        injection a1 with a1
        subst a1
        rw [List.getElem?_set_self hjl] at a2
        injection a2 with a2
        subst a2
        have := OwnK.put2 hMq i k X Y hi
        unfold hdV
        rw [hA]
        exact this
      · rw [List.getElem?_set_ne (fun e => htj e.symm)] at a2
        exact OwnG.but (hK t y M a1 a2) hkb (fun e => hD j t x y h1 a1 (fun e => htj e.symm) q (by unfold hdV; rw [hA]; rfl) e)
end Go.Proofs.Ytpplnapfpoloiaa
