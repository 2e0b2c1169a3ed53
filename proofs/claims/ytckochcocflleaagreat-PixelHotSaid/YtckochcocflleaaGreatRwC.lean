/-
  Layer 16's document: 'Hot', walked.
-/
import Derived.Test.YtckochcocflleaaGreatRwB
import Derived.Test.YtckochcocflleaaGreatRmF
import Derived.Test.YtckochcocflleaaGreatMgC
import Derived.Test.YtckochcocflleaaGreatPxF
namespace Go.Proofs.YtckochcocflleaaGreat
open Go.RowKit
set_option linter.unusedVariables false

/-- A line in a block that is known whole. -/
def LnBox (w : World) (b : Nat) (l : Ln) : Prop := w.heap[b]? = some (Obj.cells #[.int .i64 l.ax, .int .i64 l.ay, .int .i64 l.bx, .int .i64 l.bz] 36 (0, 0))
theorem LnBox.lt {w : World} {b : Nat} {l : Ln} (h : LnBox w b l) : b < w.heap.size := by
  rcases Nat.lt_or_ge b w.heap.size with k | k
  · exact k
  · unfold LnBox at h; rw [Array.getElem?_eq_none k] at h; cases h
theorem lnbox_new (w : World) (b : Nat) (hb : b = w.heap.size) (l : Ln) : LnBox (w.alloc (.cells #[.int .i64 l.ax, .int .i64 l.ay, .int .i64 l.bx, .int .i64 l.bz] 36)) b l := by
  subst hb
  exact heap_alloc_new w _
theorem LnBox.since {w w' : World} {b : Nat} {l : Ln} (h : LnBox w b l) (k : Since w w') : LnBox w' b l := (k.below.block b h.lt).trans h
theorem LnBox.at' {w : World} {b : Nat} {l : Ln} (h : LnBox w b l) : LnAt w b l := by
  have hlt := h.lt
  unfold LnBox at h
  refine ⟨?_, ?_, ?_, ?_, hlt⟩ <;> (simp only [World.cell?, h]; rfl)
theorem ln_pt_ne : (34 : TypeId) ≠ 36 := by decide
theorem LnBox.keepV {w w' : World} {b base : Nat} {l : Ln} {v : Value} {H : List Pq} (h : LnBox w b l) (hO : OwnG 34 2 ptL w base v H) (k : KeepV v w w') : LnBox w' b l := (k.2 b h.lt (hO.ne ln_pt_ne h)).trans h
/-- What is gathered in the midst of a round. -/
def MidH (X : List Ln) (x : Ln) (Y : List Ln) (e : Int × Int) : Prop := IsHot X e ∨ e = pxA x ∨ e = pxB x ∨ ∃ y ∈ Y, (meetCp x y).k = 1 ∧ e = (pixX (meetCp x y), pixY (meetCp x y))
theorem hot_more {L : List Ln} {i : Nat} {x : Ln} (h : L[i]? = some x) (e : Int × Int) : IsHot (L.take (i + 1)) e ↔ MidH (L.take i) x (L.take i) e := by
  rw [List.take_add_one, h]
  unfold MidH IsHot
  simp only [Option.toList_some, List.mem_append, List.mem_singleton]
  constructor
  · rintro (⟨l, hl | rfl, h1⟩ | ⟨s, hs | rfl, t, ht | rfl, hk, he⟩)
    · exact .inl (.inl ⟨l, hl, h1⟩)
    · rcases h1 with h1 | h1
      · exact .inr (.inl h1)
      · exact .inr (.inr (.inl h1))
    · exact .inl (.inr ⟨s, hs, t, ht, hk, he⟩)
    · exact .inr (.inr (.inr ⟨s, hs, by rw [meetCp_swap]; exact hk, by rw [meetCp_swap]; exact he⟩))
    · exact .inr (.inr (.inr ⟨t, ht, hk, he⟩))
    · rw [he]
      rcases meet_self hk with h1 | h1
      · exact .inr (.inl h1)
      · exact .inr (.inr (.inl h1))
  · rintro ((⟨l, hl, h1⟩ | ⟨s, hs, t, ht, hk, he⟩) | h1 | h1 | ⟨y, hy, hk, he⟩)
    · exact .inl ⟨l, .inl hl, h1⟩
    · exact .inr ⟨s, .inl hs, t, .inl ht, hk, he⟩
    · exact .inl ⟨x, .inr rfl, .inl h1⟩
    · exact .inl ⟨x, .inr rfl, .inr h1⟩
    · exact .inr ⟨x, .inr rfl, y, .inl hy, hk, he⟩
theorem isHot_nil (e : Int × Int) : ¬ IsHot [] e := by
  unfold IsHot
  rintro (⟨l, hl, _⟩ | ⟨s, hs, _⟩)
  · cases hl
  · cases hs
/-- A sorted list with these members. -/
def SetL (S : Int × Int → Prop) (H : List Pq) : Prop := H.Pairwise LtP ∧ ∀ p : Pq, p ∈ H ↔ S (p.x, p.y)
theorem SetL.more {S T : Int × Int → Prop} {H H' : List Pq} {q : Pq} (h : SetL S H) (h1 : H'.Pairwise LtP) (h2 : ∀ p, p ∈ H' ↔ p ∈ H ∨ p = q) (hT : ∀ e, T e ↔ S e ∨ e = (q.x, q.y)) : SetL T H' :=
  ⟨h1, fun p => by
    rw [h2, h.2, hT]
    have : p = q ↔ (p.x, p.y) = (q.x, q.y) := by
      obtain ⟨a, b⟩ := p
      obtain ⟨c, d⟩ := q
      simp
    rw [this]⟩
def RHotOut (L : List Ln) (w : World) (e : Ending) (w' : World) : Prop :=
  Since w w' ∧ ((4096 < L.length ∧ e = .returned (.tuple #[.slice none 0 0, .int .i64 7])) ∨ (L.length ≤ 4096 ∧ (∃ l ∈ L, lnG l = false) ∧ e = .returned (.tuple #[.slice none 0 0, .int .i64 6])) ∨
    (L.length ≤ 4096 ∧ (∀ l ∈ L, lnG l = true) ∧ ∃ v H, e = .returned (.tuple #[v, .int .i64 0]) ∧ OwnG 34 2 ptL w' w.heap.size v H ∧ HotL L H))
set_option maxRecDepth 100000 in
set_option maxHeartbeats 4000000 in
theorem rf_hot_many (A : Option Addr) (c : Nat) (L : List Ln) (w : World) (hL : 4096 < L.length) :
    Calls Tryz.prog 6 #[.slice A L.length c] w fun e w' => RHotOut L w e w' := by
  obtain ⟨n, hn⟩ : ∃ n, n = L.length := ⟨_, rfl⟩
  have HN := Lib.hid hn
  rw [← hn] at hL ⊢
  have hL' : (4096 : Int) < n := by omega
  clear hn
  go_enter Tryz.func6, Tryz.ntmps6
  go_wp2_with fail
  go_ret2
  exact ⟨Since.refl _, .inl ⟨by rw [← HN.out]; exact hL, rfl⟩⟩
theorem hotR_step {L : List Ln} (hg : ∀ l ∈ L, lnG l = true) {x y : Ln} (hx : x ∈ L) (hy : y ∈ L) : meetCp x y = meetG x y := by
  unfold meetCp
  rw [hg x hx, hg y hy]
  rfl
theorem SetL.last {L : List Ln} {k : Nat} {x : Ln} {H : List Pq} (h : SetL (MidH (L.take k) x ((L.take k).take k)) H) (hx : L[k]? = some x) : SetL (IsHot (L.take (k + 1))) H := by
  have e : (L.take k).take k = L.take k := List.take_of_length_le (by rw [List.length_take]; exact Nat.min_le_left _ _)
  rw [e] at h
  exact ⟨h.1, fun p => by rw [h.2, hot_more hx]⟩
theorem midH_next {L : List Ln} {i k : Nat} {x y : Ln} (hki : k < i) (hy : L[k]? = some y) (hcp : meetCp x y = meetG x y) (e : Int × Int) :
    MidH (L.take i) x ((L.take i).take (k + 1)) e ↔ MidH (L.take i) x ((L.take i).take k) e ∨ ((meetG x y).k = 1 ∧ e = (pixX (meetG x y), pixY (meetG x y))) := by
  have hyt : ((L.take i).take (k + 1)) = (L.take i).take k ++ [y] := by
    rw [List.take_add_one, List.getElem?_take, if_pos hki, hy]; rfl
  rw [hyt]
  unfold MidH
  rw [← hcp]
  simp only [List.mem_append, List.mem_singleton]
  constructor
  · rintro (h | h | h | ⟨z, hz | rfl, h⟩)
    · exact .inl (.inl h)
    · exact .inl (.inr (.inl h))
    · exact .inl (.inr (.inr (.inl h)))
    · exact .inl (.inr (.inr (.inr ⟨z, hz, h⟩)))
    · exact .inr h
  · rintro ((h | h | h | ⟨z, hz, h⟩) | h)
    · exact .inl h
    · exact .inr (.inl h)
    · exact .inr (.inr (.inl h))
    · exact .inr (.inr (.inr ⟨z, .inl hz, h⟩))
    · exact .inr (.inr (.inr ⟨y, .inr rfl, h⟩))
set_option maxRecDepth 100000 in
set_option maxHeartbeats 16000000 in
theorem rf_hot_few (A : Option Addr) (c : Nat) (L : List Ln) (w : World) (hr : RdG 4 lnE w w.heap.size A L) (hc : L.length ≤ c) (hL : L.length ≤ 120) :
    Calls Tryz.prog 6 #[.slice A L.length c] w fun e w' => RHotOut L w e w' := by
  obtain ⟨n, hn⟩ : ∃ n, n = L.length := ⟨_, rfl⟩
  have HN := Lib.hid hn
  rw [← hn] at hL hc ⊢
  have HR := Lib.hid hr
  have hLn : ¬ (4096 : Int) < n := by omega
  clear hn hr
  go_enter Tryz.func6, Tryz.ntmps6
  go_wp2_with fail
  go_loopw [17] (fun y wr => ∃ j : Nat, j ≤ n ∧ y = .int .i64 (j : Int) ∧ Hid (∀ l ∈ L.take j, lnG l = true) ∧ Since w wr) (fun y _ => n - (intOf y).toNat)
  case atStart => exact ⟨0, by omega, rfl, Lib.hid (fun l h => by simp at h), Since.refl _⟩
  case round =>
    obtain ⟨j, hj, rfl, HG, hS⟩ := hrel
    by_cases hjn : j < n
    · as_aux_lemma =>
      have hjn' : (j : Int) < n := by omega
      obtain ⟨b, o, rfl, hb, hcell⟩ := HR.out (by have := HN.out; omega)
      obtain ⟨s, hs⟩ : ∃ s, L[j]? = some s := ⟨_, List.getElem?_eq_getElem (by have := HN.out; omega)⟩
      have c1 := (hS.1 _ _ hb).trans (hcell j _ hs 0 (by omega))
      have c2 := (hS.1 _ _ hb).trans (hcell j _ hs 1 (by omega))
      have c3 := (hS.1 _ _ hb).trans (hcell j _ hs 2 (by omega))
      have c4 := (hS.1 _ _ hb).trans (hcell j _ hs 3 (by omega))
      simp only [lnE, List.getD_cons_succ, List.getD_cons_zero, Nat.add_zero] at c1 c2 c3 c4
      have hj0 : (0 : Int) ≤ j := by omega
      have hbr : b < wr.heap.size := hS.2.2.1 _ hb
      have HSJ := Lib.hid hs
      have hg := fun w => r15_good s w
      have hlg : (goodB s.ax s.ay && goodB s.bx s.bz) = lnG s := rfl
      simp only [hlg] at hg
      unfold Ln.v at hg
      clear hcell hs hlg
      cases hgs : lnG s
      · rw [hgs] at hg
        have HGD := Lib.hid hg; have HGS := Lib.hid hgs
        clear hg hgs
        go_wp2_with (go_at_call 21; (with_reducible refine (HGD.out _).mono ?_); rintro e w1 ⟨rfl, hS1⟩)
        go_ret2
        exact ⟨by (repeat (first | with_reducible (exact Since.refl _) | with_reducible assumption | with_reducible (refine Since.drew ?_) | with_reducible (refine Since.drewN ?_ _) | with_reducible (refine Since.alloc ?_ _) | (with_reducible (refine Since.setCell ?_ ?_ _); rotate_left; focus (first | (simp; done) | (simp; omega) | omega)) | (with_reducible (refine Since.trans ?_ (by with_reducible assumption))))), .inr (.inl ⟨by rw [← HN.out]; omega, ⟨s, List.mem_of_getElem? HSJ.out, HGS.out⟩, rfl⟩)⟩
      · rw [hgs] at hg
        have HGD := Lib.hid hg
        have HG2 := Lib.hid (show ∀ l ∈ L.take (j + 1), lnG l = true from fun l h => by
          rw [List.take_add_one, HSJ.out] at h
          rcases List.mem_append.1 h with h | h
          · exact HG.out l h
          · have h : l = s := by simpa using h
            subst h
            exact hgs)
        clear hg hgs
        go_wp2_with (go_at_call 21; (with_reducible refine (HGD.out _).mono ?_); rintro e w1 ⟨rfl, hS1⟩)
        go_roundw
        case rel => exact ⟨j + 1, by omega, by go_num, HG2, by (repeat (first | with_reducible (exact Since.refl _) | with_reducible assumption | with_reducible (refine Since.drew ?_) | with_reducible (refine Since.drewN ?_ _) | with_reducible (refine Since.alloc ?_ _) | (with_reducible (refine Since.setCell ?_ ?_ _); rotate_left; focus (first | (simp; done) | (simp; omega) | omega)) | (with_reducible (refine Since.trans ?_ (by with_reducible assumption)))))⟩
        case measure => simp only [intOf]; omega
    · as_aux_lemma =>
      obtain rfl : j = n := by omega
      have HGA := Lib.hid (show ∀ l ∈ L, lnG l = true from fun l h => HG.out l (by rw [List.take_of_length_le (by rw [← HN.out]; exact Nat.le_refl _)]; exact h))
      have hjn' : ¬ (j : Int) < j := by omega
      clear HG
      go_wp2_with fail
      generalize hwr0 : wr = wr0 at *
      clear hwr0 wr
      go_loopw [6, 27] (fun v y wk => ∃ (i : Nat) (H : List Pq), i ≤ j ∧ y = .int .i64 (i : Int) ∧ OwnG 34 2 ptL wk w.heap.size v H ∧ Hid (SetL (IsHot (L.take i)) H) ∧ H.length ≤ 200 * i ∧ Since w wk) (fun _ y _ => j - (intOf y).toNat)
      case atStart => exact ⟨0, [], by omega, rfl, OwnG.nil _ _ _ _ _, Lib.hid ⟨List.Pairwise.nil, fun p => ⟨(fun h => by cases h), fun h => absurd h (isHot_nil _)⟩⟩, by simp, hS⟩
      case round =>
        obtain ⟨i, H, hi, rfl, hO, HSL, hHl, hU⟩ := hrel
        by_cases hij : i < j
        · as_aux_lemma =>
          have hij' : (i : Int) < j := by omega
          obtain ⟨b, o, rfl, hb, hcell⟩ := HR.out (by have := HN.out; omega)
          obtain ⟨x, hx⟩ : ∃ x, L[i]? = some x := ⟨_, List.getElem?_eq_getElem (by have := HN.out; omega)⟩
          have c1 := (hU.1 _ _ hb).trans (hcell i _ hx 0 (by omega))
          have c2 := (hU.1 _ _ hb).trans (hcell i _ hx 1 (by omega))
          have c3 := (hU.1 _ _ hb).trans (hcell i _ hx 2 (by omega))
          have c4 := (hU.1 _ _ hb).trans (hcell i _ hx 3 (by omega))
          simp only [lnE, List.getD_cons_succ, List.getD_cons_zero, Nat.add_zero] at c1 c2 c3 c4
          have hi0 : (0 : Int) ≤ i := by omega
          have hbr : b < wr.heap.size := hU.2.2.1 _ hb
          have HX := Lib.hid hx; have HC := Lib.hid hcell
          have hgx := HGA.out x (List.mem_of_getElem? hx)
          unfold lnG at hgx
          have i1 := goodB_iff.1 (Bool.and_eq_true_iff.1 hgx).1
          have i2 := goodB_iff.1 (Bool.and_eq_true_iff.1 hgx).2
          have ho1 := fun w => rf16_of x.ax x.ay (by omega) (by omega) w
          have ho2 := fun w => rf16_of x.bx x.bz (by omega) (by omega) w
          obtain ⟨AX, hAX⟩ : ∃ z, z = pxI x.ax := ⟨_, rfl⟩
          obtain ⟨AY, hAY⟩ : ∃ z, z = pxI x.ay := ⟨_, rfl⟩
          obtain ⟨BX, hBX⟩ : ∃ z, z = pxI x.bx := ⟨_, rfl⟩
          obtain ⟨BY, hBY⟩ : ∃ z, z = pxI x.bz := ⟨_, rfl⟩
          rw [← hAX, ← hAY] at ho1
          rw [← hBX, ← hBY] at ho2
          have HPA := Lib.hid (show pxA x = (AX, AY) by rw [hAX, hAY]; rfl)
          have HPB := Lib.hid (show pxB x = (BX, BY) by rw [hBX, hBY]; rfl)
          unfold Pt at ho1 ho2
          have HO1 := Lib.hid ho1; have HO2 := Lib.hid ho2
          clear hx hcell hgx i1 i2 ho1 ho2 hAX hAY hBX hBY
          go_upto_region 13 with fail
          refine wp_named fun wa hwa => ?_
          have hTa : Since wr wa := by subst hwa; exact (Since.refl _).alloc _
          have hBa : LnBox wa wr.heap.size x := by subst hwa; exact lnbox_new wr _ rfl x
          have hOa := hO.since hTa
          have hUa := hU.trans hTa
          clear hwa c1 c2 c3 c4 hO hU hTa hbr
          generalize wr.heap.size = bx at *
          obtain ⟨x01, x02, x03, x04, x05⟩ := hBa.at'
          have tok1 := True.intro; have tok2 := True.intro; have tok3 := True.intro; have tok4 := True.intro
          go_region_held3 (fun w' => w'.cell? ⟨bx, 0, none⟩ = some (.int .i64 x.ax) ∧ w'.cell? ⟨bx, 1, none⟩ = some (.int .i64 x.ay) ∧ w'.cell? ⟨bx, 2, none⟩ = some (.int .i64 x.bx) ∧ w'.cell? ⟨bx, 3, none⟩ = some (.int .i64 x.bz)) ((refine ⟨?_, ?_, ?_, ?_⟩ <;> (first | with_reducible assumption | (rw [cell_drewR]; with_reducible assumption)))) ((first | (go_at_call 23; have _t := tok1; (with_reducible refine (HO1.out _).mono ?_); rintro e w1 ⟨rfl, hS1⟩; clear tok1; have hU1 := Since.trans (Since.drew hUa) hS1; have hO1 := OwnG.since (show OwnG 34 2 ptL wa.drew w.heap.size _ H from hOa) hS1; have hB1 := LnBox.since (show LnBox wa.drew bx x from hBa) hS1; obtain ⟨x11, x12, x13, x14, x15⟩ := hB1.at') | (go_at_call 22; have _t := tok2; have hw2 := rf_with w w.heap.size _ H ⟨AX, AY⟩ w1 hU1 (Nat.le_refl _) hU1.below.size hO1 HSL.out.1 (by omega); unfold Pt at hw2; simp only at hw2; (with_reducible refine hw2.mono ?_); rintro e w2 ⟨v2, H2, rfl, hO2, hs2, hm2, hl2, hk2, hU2⟩; clear tok2; have HS2 := Lib.hid hs2; have HM2 := Lib.hid hm2; have hB2 := hB1.keepV hO1 hk2; clear hs2 hm2 hk2 hw2; obtain ⟨x21, x22, x23, x24, x25⟩ := hB2.at') | (go_at_call 23; have _t := tok3; (with_reducible refine (HO2.out _).mono ?_); rintro e w3 ⟨rfl, hS3⟩; clear tok3; have hU3 := hU2.trans hS3; have hO3 := hO2.since hS3; have hB3 := hB2.since hS3; obtain ⟨x31, x32, x33, x34, x35⟩ := hB3.at') | (go_at_call 22; have _t := tok4; have hw4 := rf_with w w.heap.size _ H2 ⟨BX, BY⟩ w3 hU3 (Nat.le_refl _) hU3.below.size hO3 HS2.out (by omega); unfold Pt at hw4; simp only at hw4; (with_reducible refine hw4.mono ?_); rintro e w4 ⟨v4, H4, rfl, hO4, hs4, hm4, hl4, hk4, hU4⟩; clear tok4; have HS4 := Lib.hid hs4; have HM4 := Lib.hid hm4; have hB4 := hB3.keepV hO3 hk4; clear hs4 hm4 hk4 hw4; obtain ⟨x41, x42, x43, x44, x45⟩ := hB4.at')))
          have hmid : SetL (MidH (L.take i) x []) H4 := by
            refine SetL.more (S := fun e => IsHot (L.take i) e ∨ e = pxA x) (H := H2) ?_ HS4.out HM4.out (fun e => ?_)
            · refine SetL.more HSL.out HS2.out HM2.out (fun e => ?_)
              rw [HPA.out]
            · unfold MidH
              rw [HPB.out]
              simp [or_assoc]
          have HMID := Lib.hid hmid
          have hl4' : H4.length ≤ 200 * i + 2 := by omega
          clear x01 x02 x03 x04 x05 x11 x12 x13 x14 x15 x21 x22 x23 x24 x25 x31 x32 x33 x34 x35 x41 x42 x43 x44 x45 hS1 hU1 hO1 hB1 hO2 hl2 hU2 HS2 HM2 hB2 hS3 hU3 hO3 hB3 hl4 HS4 HM4 hmid hBa hOa hUa HO1 HO2 HSL HPA HPB hHl
          have hic : (i : Int) ≤ c := by omega
          have hic2 : i ≤ c := by omega
          go_wp2_with fail
          go_loopw [6, 45] (fun v y wk => ∃ (k : Nat) (H : List Pq), k ≤ i ∧ y = .int .i64 (k : Int) ∧ OwnG 34 2 ptL wk w.heap.size v H ∧ Hid (SetL (MidH (L.take i) x ((L.take i).take k)) H) ∧ H.length ≤ 200 * i + 2 + k ∧ LnBox wk bx x ∧ Since w wk) (fun _ y _ => i - (intOf y).toNat)
          case atStart => exact ⟨0, H4, by omega, rfl, hO4, Lib.hid (by rw [List.take_zero]; exact HMID.out), by omega, hB4, hU4⟩
          case round =>
            obtain ⟨k, H5, hk, rfl, hO5, HSL5, hl5, hB5, hU5⟩ := hrel
            by_cases hki : k < i
            · as_aux_lemma =>
              have hki' : (k : Int) < i := by omega
              obtain ⟨y, hy⟩ : ∃ y, L[k]? = some y := ⟨_, List.getElem?_eq_getElem (by have := HN.out; omega)⟩
              have c1 := (hU5.1 _ _ hb).trans (HC.out k _ hy 0 (by omega))
              have c2 := (hU5.1 _ _ hb).trans (HC.out k _ hy 1 (by omega))
              have c3 := (hU5.1 _ _ hb).trans (HC.out k _ hy 2 (by omega))
              have c4 := (hU5.1 _ _ hb).trans (HC.out k _ hy 3 (by omega))
              simp only [lnE, List.getD_cons_succ, List.getD_cons_zero, Nat.add_zero] at c1 c2 c3 c4
              have hk0 : (0 : Int) ≤ k := by omega
              have hbr : b < wr.heap.size := hU5.2.2.1 _ hb
              have hxm := List.mem_of_getElem? HX.out
              have hym := List.mem_of_getElem? hy
              have hgx := HGA.out x hxm
              have hgy := HGA.out y hym
              have hme := fun w => rf15_meet x y hgx hgy w
              have hcp := hotR_step HGA.out hxm hym
              have hsh := fun (hk1 : (meetG x y).k = 1) => meet_sh x y hgx hgy hk1
              have hM := fun e => midH_next (x := x) hki hy hcp e
              have HM := Lib.hid hM
              have hpx : (meetG x y).k = 1 → pixX (meetG x y) = midI (meetG x y).x (meetG x y).d ∧ pixY (meetG x y) = midI (meetG x y).y (meetG x y).d := fun h => ⟨if_pos h, if_pos h⟩
              generalize meetG x y = q at *
              have hpi := fun (h : q.k = 1) w => rf15_pixel q (hsh h).1 (hsh h).2 w
              have hrp := fun w b hb t => rprow w b hb t q
              unfold Ln.v at hme
              unfold RP at hme hpi
              unfold Pt at hpi
              have HME := Lib.hid hme; have HRP := Lib.hid hrp
              have HPI := Lib.hid hpi; have HPX := Lib.hid hpx
              clear hy hxm hym hgx hgy hme hcp hsh hM hpx hpi hrp
              obtain ⟨x1, x2, x3, x4, x5⟩ := hB5.at'
              go_upto_region 17 with fail
              refine wp_named fun wb hwb => ?_
              have hTb : Since wr wb := by subst hwb; exact (Since.refl _).alloc _
              have hYb : LnAt wb wr.heap.size y := by subst hwb; exact ln_new wr _ rfl y _
              have hXb := hB5.since hTb
              have hOb := hO5.since hTb
              have hUb := hU5.trans hTb
              clear hwb c1 c2 c3 c4 x1 x2 x3 x4 x5 hO5 hU5 hTb hB5 hbr
              generalize wr.heap.size = by' at *
              obtain ⟨x1, x2, x3, x4, x5⟩ := hXb.at'
              obtain ⟨y1, y2, y3, y4, y5⟩ := id hYb
              go_upto_region 18 with (go_at_call 24; (with_reducible refine (HME.out _).mono ?_); rintro e w6 ⟨rfl, hS6⟩)
              refine wp_named fun wd hwd => ?_
              have hTd : Since wb wd := by subst hwd; (repeat (first | with_reducible (exact Since.refl _) | with_reducible assumption | with_reducible (refine Since.drew ?_) | with_reducible (refine Since.drewN ?_ _) | with_reducible (refine Since.alloc ?_ _) | (with_reducible (refine Since.setCell ?_ ?_ _); rotate_left; focus (first | (simp; done) | (simp; omega) | omega)) | (with_reducible (refine Since.trans ?_ (by with_reducible assumption)))))
              have hRd : Row wd w6.heap.size 18 (RPf q) := by subst hwd; exact HRP.out w6 _ rfl _
              have hXd := hXb.since hTd
              have hOd := hOb.since hTd
              have hUd := hUb.trans hTd
              clear hwd hTd hXb hYb hOb hUb hS6 x1 x2 x3 x4 x5 y1 y2 y3 y4 y5 HME HRP
              generalize w6.heap.size = bq at *
              obtain ⟨c0, c1, c2, c3, c4, c5, c6, c7, c8, c9, c10, c11, c12, c13, c14, c15, c16, c17, c18⟩ := rpcells hRd
              have hk1 : IntKind.i64.wrap ((k : Int) + 1) = (k : Int) + 1 := IntWalk.i64_in _ (by omega)
              by_cases hkd : q.k = 1
              · as_aux_lemma =>
                have d1 : (q.k == 1) = true := by simp [hkd]
                obtain ⟨ex, ey⟩ := HPX.out hkd
                have hpi := HPI.out hkd
                obtain ⟨PX, hPX⟩ : ∃ z, z = midI q.x q.d := ⟨_, rfl⟩
                obtain ⟨PY, hPY⟩ : ∃ z, z = midI q.y q.d := ⟨_, rfl⟩
                rw [← hPX, ← hPY] at hpi
                rw [← hPX] at ex
                rw [← hPY] at ey
                have HPI2 := Lib.hid hpi; have HEX := Lib.hid ex; have HEY := Lib.hid ey; have HKD := Lib.hid hkd
                clear hpi ex ey hkd hPX hPY HPI HPX
                go_wp2_with (first | (go_at_call 25; (with_reducible refine (HPI2.out _).mono ?_); rintro e w7 ⟨rfl, hS7⟩; have hU7 := hUd.trans hS7; have hO7 := hOd.since hS7; have hX7 := hXd.since hS7) | (go_at_call 22; have hw8 := rf_with w w.heap.size _ H5 ⟨PX, PY⟩ w7 hU7 (Nat.le_refl _) hU7.below.size hO7 HSL5.out.1 (by omega); unfold Pt at hw8; simp only at hw8; (with_reducible refine hw8.mono ?_); rintro e w8 ⟨v8, H8, rfl, hO8, hs8, hm8, hl8, hk8, hU8⟩; have HS8 := Lib.hid hs8; have HM8 := Lib.hid hm8; have hX8 := hX7.keepV hO7 hk8; clear hs8 hm8 hk8 hw8))
                have hnew : SetL (MidH (L.take i) x ((L.take i).take (k + 1))) H8 := SetL.more HSL5.out HS8.out HM8.out (fun e => by
                  rw [HM.out, HEX.out, HEY.out]
                  simp [HKD.out])
                go_roundw
                case rel => exact ⟨k + 1, H8, by omega, by go_num, hO8, Lib.hid hnew, by omega, hX8, hU8⟩
                case measure => simp only [intOf]; omega
              · as_aux_lemma =>
                have d1 : (q.k == 1) = false := by simp [hkd]
                have hnew : SetL (MidH (L.take i) x ((L.take i).take (k + 1))) H5 := ⟨HSL5.out.1, fun p => by
                  rw [HSL5.out.2, HM.out]
                  simp [hkd]⟩
                have HNEW := Lib.hid hnew
                clear hkd hnew
                go_wp2_with fail
                go_roundw
                case rel => exact ⟨k + 1, H5, by omega, by go_num, hOd, HNEW, by omega, hXd, hUd⟩
                case measure => simp only [intOf]; omega
            · as_aux_lemma =>
              obtain rfl : k = i := by omega
              have hki' : ¬ (k : Int) < k := by omega
              have hnew : SetL (IsHot (L.take (k + 1))) H5 := HSL5.out.last HX.out
              have HNEW := Lib.hid hnew
              clear hnew
              go_wp2_with fail
              go_roundw
              case rel => exact ⟨k + 1, H5, by omega, by go_num, hO5, HNEW, by omega, hU5⟩
              case measure => simp only [intOf]; omega
        · as_aux_lemma =>
          obtain rfl : i = j := by omega
          have hij' : ¬ (i : Int) < i := by omega
          have hfin : HotL L H := by
            have h := HSL.out
            rw [List.take_of_length_le (by rw [← HN.out]; exact Nat.le_refl _)] at h
            exact h
          have HFIN := Lib.hid hfin
          clear hfin HSL
          go_wp2_with fail
          go_ret2
          exact ⟨hU, .inr (.inr ⟨by rw [← HN.out]; omega, HGA.out, _, H, rfl, hO, HFIN.out⟩)⟩
end Go.Proofs.YtckochcocflleaaGreat
