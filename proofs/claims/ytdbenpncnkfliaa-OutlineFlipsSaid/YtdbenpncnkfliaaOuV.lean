/-
  Layer 11: the reference's 'Alike' of lists of pieces that are the same but for their order.
-/
import Derived.Test.YtdbenpncnkfliaaOuF
import Derived.Test.YtdbenpncnkfliaaKitG
namespace Go.Proofs.Ytdbenpncnkfliaa
open Go.RowKit Go.ChangeShapes Go.WideShapes Go.Deep
set_option linter.unusedVariables false

/-- A piece gone the other way. -/
def flipS (s : Sg) : Sg := ⟨s.bx, s.bz, s.cx, s.cy, s.ax, s.ay, s.k⟩
def fb (back : Bool) (s : Sg) : Sg := if back then flipS s else s
theorem fb_map (L : List Sg) : L.map (fb false) = L := by
  have h : fb false = id := by funext s; rfl
  rw [h, List.map_id]
theorem sgEq_iff (s t : Sg) : sgEq s t = true ↔ s = t := by
  obtain ⟨a0, a1, a2, a3, a4, a5, ak⟩ := s
  obtain ⟨b0, b1, b2, b3, b4, b5, bk⟩ := t
  simp [sgEq, and_assoc]
theorem filt_one (U U' : Nat → Bool) (q : Nat) (hU : U q = false) (hU' : ∀ t, U' t = if t = q then true else U t) : ∀ m, q < m → ((List.range m).filter (fun i => !U i)).Perm (q :: (List.range m).filter (fun i => !U' i))
  | 0, h => by omega
  | m + 1, h => by
    rw [List.range_succ, List.filter_append, List.filter_append]
    by_cases e : q = m
    · subst e
      have h1 : (List.range q).filter (fun i => !U i) = (List.range q).filter (fun i => !U' i) := by
        apply List.filter_congr
        intro t ht
        rw [List.mem_range] at ht
        rw [hU', if_neg (by omega)]
      have h2 : U' q = true := by rw [hU', if_pos rfl]
      rw [h1]
      simp only [List.filter_cons, hU, h2, Bool.not_false, Bool.not_true, if_true, List.filter_nil, Bool.false_eq_true, if_false, List.append_nil]
      exact List.perm_append_comm
    · have ih := filt_one U U' q hU hU' m (by omega)
      have h2 : U' m = U m := by rw [hU', if_neg (by omega)]
      have h3 : [m].filter (fun i => !U i) = [m].filter (fun i => !U' i) := by simp only [List.filter_cons, h2, List.filter_nil]
      rw [h3]
      exact ih.append_right _
def D0 : Sg := ⟨0, 0, 0, 0, 0, 0, false⟩
def left (back : Bool) (M : List Sg) (m : Nat) (U : Nat → Bool) : List Sg := ((List.range m).filter (fun i => !U i)).map (fun i => fb back (M.getD i D0))
theorem left_start (back : Bool) (M : List Sg) : left back M M.length (fun _ => false) = M.map (fb back) := by
  unfold left
  have h0 : (List.range M.length).filter (fun i => !(fun _ => false) i) = List.range M.length := List.filter_eq_self.2 (by simp)
  rw [h0]
  apply List.ext_getElem?
  intro j
  by_cases h : j < M.length
  · simp [h]
  · simp [h]
theorem left_step {back : Bool} {M : List Sg} {m q : Nat} {U U' : Nat → Bool} (hq : q < m) (hU : U q = false) (hU' : ∀ t, U' t = if t = q then true else U t) :
    (left back M m U).Perm (fb back (M.getD q D0) :: left back M m U') := by
  unfold left
  exact (filt_one U U' q hU hU' m hq).map _
theorem left_mem {back : Bool} {M : List Sg} {m : Nat} {U : Nat → Bool} {s : Sg} (h : s ∈ left back M m U) : ∃ q, q < m ∧ U q = false ∧ fb back (M.getD q D0) = s := by
  unfold left at h
  rw [List.mem_map] at h
  obtain ⟨q, hq, e⟩ := h
  rw [List.mem_filter, List.mem_range] at hq
  exact ⟨q, hq.1, by simpa using hq.2, e⟩
theorem infoB0 : (Try.prog.info? 4).map (fun i => (i.zero, i.size, i.bytes)) = some (some (.bool false), 1, 1) := by kernel_rfl
/-- The used ones. -/
def Uf (U : Nat → Bool) (j : Nat) : Value := .bool (U j)
theorem zero_b (j : Nat) : (Value.bool false).cells[j % (Value.bool false).cells.size]! = Uf (fun _ => false) j := by
  have h : (Value.bool false).cells.size = 1 := rfl
  rw [h, Nat.mod_one]
  rfl
theorem uset {w : World} {b m : Nat} {U : Nat → Bool} (h : Row w b m (Uf U)) (i : Nat) : Row (w.setCell ⟨b, i, none⟩ (.bool true)) b m (Uf (fun t => if t = i then true else U t)) := by
  refine (h.set i _).congr fun j hj => ?_
  show (if j = i then Value.bool true else .bool (U j)) = .bool (if j = i then true else U j)
  split <;> rfl
theorem sflip {w : World} {b : Nat} {s : Sg} (h : Row w b 7 (Sf s)) : Row ((((w.setCell ⟨b, 0, none⟩ (.int .i64 s.bx)).setCell ⟨b, 1, none⟩ (.int .i64 s.bz)).setCell ⟨b, 4, none⟩ (.int .i64 s.ax)).setCell ⟨b, 5, none⟩ (.int .i64 s.ay)) b 7 (Sf (flipS s)) := by
  refine ((((h.set 0 _).set 1 _).set 4 _).set 5 _).congr fun j hj => ?_
  have hh : j = 0 ∨ j = 1 ∨ j = 2 ∨ j = 3 ∨ j = 4 ∨ j = 5 ∨ j = 6 := by omega
  rcases hh with rfl | rfl | rfl | rfl | rfl | rfl | rfl <;> rfl
set_option maxRecDepth 100000 in
set_option maxHeartbeats 16000000 in
theorem rf_alike (A A' : Option Addr) (c c' : Nat) (L M : List Sg) (back : Bool) (w : World) (h : RdS w w.heap.size A L) (h' : RdS w w.heap.size A' M) (hp : L.Perm (M.map (fb back))) (hn : L.length ≤ 1000000) :
    Calls Try.prog 27 #[.slice A L.length c, .slice A' M.length c', .bool back] w fun e w' => e = .returned (.bool true) ∧ Since w w' := by
  have hlm : M.length = L.length := by have := hp.length_eq; rw [List.length_map] at this; exact this.symm
  rw [hlm]
  obtain ⟨m, hm⟩ : ∃ m, m = L.length := ⟨_, rfl⟩
  rw [← hm]
  have HML := Lib.hid hm
  have HMM := Lib.hid (hm.trans hlm.symm)
  have hm1 : m ≤ 1000000 := by omega
  have HPM := Lib.hid hp
  clear hm hlm hn hp
  obtain ⟨i0, hi0, hz0, hz1, hz2⟩ := info_parts infoB0
  go_enter Try.func27, Try.ntmps27
  go_wp2_with (at_make; refine wpList_make_k _ (by rfl) _ _ _ (by rfl) 4 i0 _ 1 1 Try.underlying80 hi0 hz0 hz1 hz2 (Uf (fun _ => false)) zero_b .i64 .i64 m (by rfl) (by rfl) (by omega) (by simp only [maxLen]; omega) ?_; intro w1 hown1 hS1)
  have rU := row_of_own_k (k := 1) (by omega) hown1
  rw [Nat.mul_one] at rU
  obtain ⟨g, hg⟩ : ∃ g, g = w.heap.size := ⟨_, rfl⟩
  have hgw : w.heap.size ≤ g := by omega
  rw [← hg] at rU ⊢
  clear hg hown1
  go_loopw [23] (fun y wr => ∃ (j : Nat) (U : Nat → Bool), j ≤ m ∧ y = .int .i64 (j : Int) ∧ Row wr g m (Uf U) ∧ Since w wr ∧ Hid ((L.drop j).Perm (left back M m U))) (fun y _ => m - (intOf y).toNat)
  case atStart => exact ⟨0, _, by omega, rfl, rU, hS1, Lib.hid (by rw [HMM.out, left_start]; exact HPM.out)⟩
  case round =>
    obtain ⟨j, U, hj, rfl, rU, hSr, HP⟩ := hrel
    by_cases hjm : j < m
    · have hjm' : (j : Int) < m := by omega
      have hml := HML.out
      obtain ⟨b, o, rfl, hb, hc⟩ := h (by omega)
      have hs : L[j]? = some L[j] := List.getElem?_eq_getElem (by omega)
      have hdrop : L.drop j = L[j] :: L.drop (j + 1) := List.drop_eq_getElem_cons (by omega)
      have hHD := Lib.hid hdrop
      obtain ⟨x1, x2, x3, x4, x5, x6, x7⟩ := hc j _ hs
      clear hs hdrop
      generalize L[j] = s at *
      obtain ⟨ax, ay, cx, cy, bx, bz, k⟩ := s
      simp only at x1 x2 x3 x4 x5 x6 x7
      have x1 := (hSr.1 _ _ hb).trans x1
      have x2 := (hSr.1 _ _ hb).trans x2
      have x3 := (hSr.1 _ _ hb).trans x3
      have x4 := (hSr.1 _ _ hb).trans x4
      have x5 := (hSr.1 _ _ hb).trans x5
      have x6 := (hSr.1 _ _ hb).trans x6
      have x7 := (hSr.1 _ _ hb).trans x7
      have hbw := hSr.2.2.1 _ hb
      clear hc hml h
      go_upto_region 7 with fail
      refine wp_named fun w3 hw3 => ?_
      have rS : Row w3 wr.heap.size 7 (Sf ⟨ax, ay, cx, cy, bx, bz, k⟩) := by subst hw3; exact srow wr _ rfl _ ⟨ax, ay, cx, cy, bx, bz, k⟩
      have hS3 : Since wr w3 := by subst hw3; (repeat (first | with_reducible (exact Since.refl _) | with_reducible assumption | with_reducible (refine Since.drew ?_) | with_reducible (refine Since.drewN ?_ _) | with_reducible (refine Since.alloc ?_ _) | (with_reducible (refine Since.setCell ?_ ?_ _); rotate_left; focus (first | (simp; done) | (simp; omega) | omega)) | (with_reducible (refine Since.trans ?_ (by with_reducible assumption)))))
      have rU3 := rU.since hS3
      have hSw := hSr.trans hS3
      have hrg : g < wr.heap.size := rU.2.2
      clear hw3 x1 x2 x3 x4 x5 x6 x7 hbw
      generalize wr.heap.size = r at *
      go_upto_block 2 with fail
      go_cut [10] (fun v wx => v = .bool true ∧ Since w wx ∧ ∃ U', Row wx g m (Uf U') ∧ Hid ((L.drop (j + 1)).Perm (left back M m U')))
      case first =>
        go_wp2_with fail
        go_loopw [10, 29] (fun v z wr' => ∃ (i : Nat) (fd : Bool) (V : Nat → Bool), i ≤ m ∧ z = .int .i64 (i : Int) ∧ v = .bool fd ∧ Row wr' g m (Uf V) ∧ Row wr' r 7 (Sf ⟨ax, ay, cx, cy, bx, bz, k⟩) ∧ Since w wr' ∧ Hid ((fd = true ∧ ∃ q, q < m ∧ U q = false ∧ fb back (M.getD q D0) = ⟨ax, ay, cx, cy, bx, bz, k⟩ ∧ ∀ t, V t = (if t = q then true else U t)) ∨ (fd = false ∧ (∀ t, V t = U t) ∧ ∀ q, q < i → U q = false → fb back (M.getD q D0) ≠ ⟨ax, ay, cx, cy, bx, bz, k⟩))) (fun _ z _ => m - (intOf z).toNat)
        case atStart => exact ⟨0, false, U, by omega, rfl, rfl, rU3, rS, hSw, Lib.hid (.inr ⟨rfl, fun t => rfl, fun q hq => absurd hq (by omega)⟩)⟩
        case round =>
          obtain ⟨i, fd, V, hi, rfl, rfl, rV, rS, hSq, HQ⟩ := hrel
          by_cases him : i < m
          · have him' : (i : Int) < m := by omega
            have hmm := HMM.out
            obtain ⟨b', o', rfl, hb', hc'⟩ := h' (by omega)
            have ht : M[i]? = some M[i] := List.getElem?_eq_getElem (by omega)
            have hgd : M.getD i D0 = M[i] := by rw [List.getD_eq_getElem?_getD, ht]; rfl
            obtain ⟨x1, x2, x3, x4, x5, x6, x7⟩ := hc' i _ ht
            have HGD := Lib.hid hgd
            generalize M[i] = t at *
            clear ht hgd hmm hc'
            have x1 := (hSq.1 _ _ hb').trans x1
            have x2 := (hSq.1 _ _ hb').trans x2
            have x3 := (hSq.1 _ _ hb').trans x3
            have x4 := (hSq.1 _ _ hb').trans x4
            have x5 := (hSq.1 _ _ hb').trans x5
            have x6 := (hSq.1 _ _ hb').trans x6
            have x7 := (hSq.1 _ _ hb').trans x7
            have hbw := hSq.2.2.1 _ hb'
            go_upto_region 11 with fail
            refine wp_named fun w5 hw5 => ?_
            have rT : Row w5 wr.heap.size 7 (Sf t) := by subst hw5; exact srow wr _ rfl _ t
            have hS5 : Since wr w5 := by subst hw5; (repeat (first | with_reducible (exact Since.refl _) | with_reducible assumption | with_reducible (refine Since.drew ?_) | with_reducible (refine Since.drewN ?_ _) | with_reducible (refine Since.alloc ?_ _) | (with_reducible (refine Since.setCell ?_ ?_ _); rotate_left; focus (first | (simp; done) | (simp; omega) | omega)) | (with_reducible (refine Since.trans ?_ (by with_reducible assumption)))))
            clear hw5 x1 x2 x3 x4 x5 x6 x7 hbw
            have hrt : wr.heap.size ≤ wr.heap.size := Nat.le_refl _
            have hgt : g < wr.heap.size := rV.2.2
            have hrl : r < wr.heap.size := rS.2.2
            obtain ⟨q0, hq0⟩ : ∃ q0, q0 = wr.heap.size := ⟨_, rfl⟩
            have hrt : wr.heap.size ≤ q0 := by omega
            rw [← hq0] at rT hgt hrl ⊢
            clear hq0
            obtain ⟨t1, t2, t3, t4, t5, t6, t7, t8⟩ := scells rT
            have z0 := rT.2.1 0
            have z1 := rT.2.1 1
            have z4 := rT.2.1 4
            have z5 := rT.2.1 5
            go_upto_if 34 with fail
            go_cut [] (fun wx => Since wr wx ∧ Row wx q0 7 (Sf (fb back t)))
            case first =>
              cases back
              · go_wp2_with fail
                go_meet
                exact ⟨hS5, rT⟩
              · go_wp2_with fail
                go_meet
                exact ⟨(((hS5.setCell hrt _).setCell hrt _).setCell hrt _).setCell hrt _, sflip rT⟩
            obtain ⟨hSx, rT⟩ := hcut
            clear t1 t2 t3 t4 t5 t6 t7 t8 z0 z1 z4 z5 hS5
            obtain ⟨u, hu⟩ : ∃ u, u = fb back t := ⟨_, rfl⟩
            rw [← hu] at rT
            have HU := Lib.hid hu
            clear hu
            have hcmp := fun w => eq_segs w ⟨ax, ay, cx, cy, bx, bz, k⟩ u
            have hiff := sgEq_iff ⟨ax, ay, cx, cy, bx, bz, k⟩ u
            generalize sgEq ⟨ax, ay, cx, cy, bx, bz, k⟩ u = qe at *
            have HIF := Lib.hid hiff
            clear hiff
            obtain ⟨u0, u1, u2, u3, u4, u5, uk⟩ := u
            unfold Sg.v at hcmp
            simp only at hcmp
            have rV2 := rV.since hSx
            have rS2 := rS.since hSx
            have hSn := hSq.trans hSx
            obtain ⟨s1, s2, s3, s4, s5, s6, s7, s8⟩ := scells rS2
            obtain ⟨t1, t2, t3, t4, t5, t6, t7, t8⟩ := scells rT
            simp only at s1 s2 s3 s4 s5 s6 s7 t1 t2 t3 t4 t5 t6 t7
            have v1 : wc.cell? ⟨g, i, none⟩ = some (.bool (V i)) := rV2.1 i him
            have v2 := rV2.2.1 i
            have v3 := rV2.2.2
            have HVi := Lib.hid (Eq.refl (V i))
            have hne : g ≠ q0 := by omega
            cases fd
            · cases hV : V i
              · rw [hV] at v1
                cases qe
                · go_wp2_with fail
                  go_roundw
                  case rel =>
                    refine ⟨i + 1, false, V, by omega, by go_num, rfl, rV2, rS2, hSn, Lib.hid ?_⟩
                    rcases HQ.out with ⟨h1, _⟩ | ⟨_, h2, h3⟩
                    · cases h1
                    · refine .inr ⟨rfl, h2, fun q hq hUq => ?_⟩
                      by_cases e : q = i
                      · subst e
                        rw [HGD.out, ← HU.out]
                        intro e2
                        have := HIF.out.2 e2.symm
                        cases this
                      · exact h3 q (by omega) hUq
                  case measure => simp [intOf]; omega
                · go_wp2_with fail
                  go_roundw
                  case rel =>
                    refine ⟨i + 1, true, _, by omega, by go_num, rfl, uset rV2 i, rS2.far (by omega) _ _, hSn.setCell hgw _, Lib.hid ?_⟩
                    rcases HQ.out with ⟨h1, _⟩ | ⟨_, h2, h3⟩
                    · cases h1
                    · refine .inl ⟨rfl, i, him, by rw [← h2]; exact hV, ?_, fun t => ?_⟩
                      · rw [HGD.out, ← HU.out]
                        exact (HIF.out.1 rfl).symm
                      · rw [h2]
                  case measure => simp [intOf]; omega
              · rw [hV] at v1
                go_wp2_with fail
                go_roundw
                case rel =>
                  refine ⟨i + 1, false, V, by omega, by go_num, rfl, rV2, rS2, hSn, Lib.hid ?_⟩
                  rcases HQ.out with ⟨h1, _⟩ | ⟨_, h2, h3⟩
                  · cases h1
                  · refine .inr ⟨rfl, h2, fun q hq hUq => ?_⟩
                    by_cases e : q = i
                    · subst e
                      rw [h2, hUq] at hV
                      cases hV
                    · exact h3 q (by omega) hUq
                case measure => simp [intOf]; omega
            · go_wp2_with fail
              go_roundw
              case rel =>
                refine ⟨i + 1, true, V, by omega, by go_num, rfl, rV2, rS2, hSn, Lib.hid ?_⟩
                rcases HQ.out with h1 | ⟨h1, _⟩
                · exact .inl h1
                · cases h1
              case measure => simp [intOf]; omega
          · obtain rfl : m = i := by omega
            have hp := HP.out
            rw [hHD.out] at hp
            have hfd : fd = true ∧ ∃ q, q < m ∧ U q = false ∧ fb back (M.getD q D0) = ⟨ax, ay, cx, cy, bx, bz, k⟩ ∧ ∀ t, V t = (if t = q then true else U t) := by
              rcases HQ.out with h1 | ⟨_, _, h3⟩
              · exact h1
              · obtain ⟨q, hq, hU, e⟩ := left_mem (hp.mem_iff.1 (List.mem_cons_self ..))
                exact absurd e (h3 q hq hU)
            obtain ⟨rfl, q, hq, hUq, hMq, hVq⟩ := hfd
            have hp2 := hp.trans (left_step (back := back) (M := M) hq hUq hVq)
            rw [hMq] at hp2
            have hp3 := hp2.cons_inv
            have HP3 := Lib.hid hp3
            clear hp hp2 hp3 hMq hVq
            go_wp2_with fail
            go_meet
            exact ⟨rfl, hSq, V, rV, HP3⟩
      obtain ⟨rfl, hSx, U', rU', HP'⟩ := hcut
      go_wp2_with fail
      go_roundw
      case rel => exact ⟨j + 1, U', by omega, by go_num, rU', hSx, HP'⟩
      case measure => simp [intOf]; omega
    · obtain rfl : m = j := by omega
      go_wp2_with fail
      go_ret
      exact ⟨rfl, hSr⟩
end Go.Proofs.Ytdbenpncnkfliaa
