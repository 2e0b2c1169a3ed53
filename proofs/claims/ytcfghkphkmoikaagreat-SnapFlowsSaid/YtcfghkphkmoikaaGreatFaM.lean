/-
  Layer 14: the reference's 'Closed', walked.
-/
import Derived.Test.YtcfghkphkmoikaaGreatMqF
import Derived.Shelf.Abstract
import Derived.Deep.CutBlock
import Derived.Deep.DeepCutAuto
namespace Go.Proofs.YtcfghkphkmoikaaGreat
set_option maxRecDepth 100000
open Go.RowKit Go.ChangeShapes Go.WideShapes Go.Deep
set_option linter.unusedVariables false

@[go_sem] theorem iy0m (a b c d : Value) (w : World) : (Instr.index 52 (.agg #[a, b, c, d]) (.int .i64 0)).run Tryz.prog w = .ok (.agg #[a, b]) w := by rfl
@[go_sem] theorem iy1m (a b c d : Value) (w : World) : (Instr.index 52 (.agg #[a, b, c, d]) (.int .i64 1)).run Tryz.prog w = .ok (.agg #[c, d]) w := by rfl
set_option maxRecDepth 100000 in
set_option maxHeartbeats 8000000 in
theorem rf_closed (A : Option Addr) (L : List Lq) (c : Nat) (w : World) (h : RdG 4 lnL w w.heap.size A L) (hL : L.length ≤ 1000000) :
    Calls Tryz.prog 21 #[.slice A L.length c] w fun e w' => e = .returned (.bool (closedB L)) ∧ Since w w' := by
  obtain ⟨n, hn⟩ : ∃ n, n = L.length := ⟨_, rfl⟩
  rw [← hn] at hL ⊢
  have H := Lib.hid h
  have HN := Lib.hid hn
  clear h hn
  go_enter Tryz.func21, Tryz.ntmps21
  go_wp2_with fail
  go_loopw [12] (fun y wr => ∃ j : Nat, j ≤ n ∧ y = .int .i64 (j : Int) ∧ Since w wr ∧ ∀ (i : Nat) (x : Lq), i < j → L[i]? = some x → chkL L x = true) (fun y _ => n - (intOf y).toNat)
  case atStart => exact ⟨0, by omega, rfl, Since.refl _, fun i x hi => by omega⟩
  case round =>
    obtain ⟨j, hj, rfl, hSr, hA⟩ := hrel
    by_cases hjn : j < n
    · have hjn' : (j : Int) < n := by omega
      have hnn := HN.out
      obtain ⟨b, o, rfl, hb, hc⟩ := H.out (by omega)
      obtain ⟨p, hp⟩ : ∃ p, L[j]? = some p := ⟨_, List.getElem?_eq_getElem (by omega)⟩
      obtain ⟨ax, ay, bx, bz⟩ := p
      have c1 := (hSr.1 _ _ hb).trans (hc j _ hp 0 (by omega))
      have c2 := (hSr.1 _ _ hb).trans (hc j _ hp 1 (by omega))
      have c3 := (hSr.1 _ _ hb).trans (hc j _ hp 2 (by omega))
      have c4 := (hSr.1 _ _ hb).trans (hc j _ hp 3 (by omega))
      simp only [lnL, List.getD_cons_succ, List.getD_cons_zero, Nat.add_zero] at c1 c2 c3 c4
      have hj0 : (0 : Int) ≤ j := by omega
      have u1 : IntKind.i64.wrap ((j : Int) + 1) = (j : Int) + 1 := IntWalk.i64_in _ (by omega)
      have HC := Lib.hid hc
      have HP := Lib.hid hp
      have HA := Lib.hid hA
      have HSR := Lib.hid hSr
      have hck : chkL L ⟨ax, ay, bx, bz⟩ = (cntL L ⟨ax, ay⟩ == 0 && cntL L ⟨bx, bz⟩ == 0) := rfl
      have HCK := Lib.hid hck
      clear hc hp hnn hA hck
      go_wp2_with fail
      refine wp_named fun wz hwz => ?_
      have hSz : Since w wz := by subst hwz; exact HSR.out.alloc _
      clear hwz c1 c2 c3 c4
      go_loopw [21] (fun y wm => Since w wm ∧ (y = .int .i64 0 ∨ (y = .int .i64 1 ∧ cntL L ⟨ax, ay⟩ = 0) ∨ (y = .int .i64 2 ∧ cntL L ⟨ax, ay⟩ = 0 ∧ cntL L ⟨bx, bz⟩ = 0))) (fun y _ => 2 - (intOf y).toNat)
      case atStart => exact ⟨hSz, .inl rfl⟩
      case round =>
        obtain ⟨hSm, rfl | ⟨rfl, hz1⟩ | ⟨rfl, hz1, hz2⟩⟩ := hrel
        · clear hSz
          go_upto_region 9 with fail
          refine wp_named fun wn hwn => ?_
          have hSn : Since wr wn := by subst hwn; exact (Since.refl wr).alloc _
          have p1 : wn.cell? ⟨wr.heap.size, 0, none⟩ = some (.int .i64 ax) := by subst hwn; simp
          have p2 : wn.cell? ⟨wr.heap.size, 1, none⟩ = some (.int .i64 ay) := by subst hwn; simp
          have hrl : wr.heap.size < wn.heap.size := by subst hwn; simp
          clear hwn
          have HSN := Lib.hid (hSm.trans hSn)
          clear hSm hSn
          obtain ⟨r, hr0⟩ : ∃ r, r = wr.heap.size := ⟨_, rfl⟩
          rw [← hr0] at p1 p2 hrl ⊢
          clear hr0
          go_loopw [7, 26] (fun z y wi => ∃ k : Nat, k ≤ n ∧ y = .int .i64 (k : Int) ∧ z = .int .i64 (cntJ L ⟨ax, ay⟩ k) ∧ Since wn wi) (fun _ y _ => n - (intOf y).toNat)
          case atStart => exact ⟨0, by omega, rfl, rfl, Since.refl _⟩
          case round =>
            obtain ⟨k, hk, rfl, rfl, hSi⟩ := hrel
            by_cases hkn : k < n
            · have hkn' : (k : Int) < n := by omega
              have hnn := HN.out
              obtain ⟨y, hy⟩ : ∃ y, L[k]? = some y := ⟨_, List.getElem?_eq_getElem (by omega)⟩
              obtain ⟨ex, ey, fx, fy⟩ := y
              have hSw := HSN.out.trans hSi
              have d1 := (hSw.1 _ _ hb).trans (HC.out k _ hy 0 (by omega))
              have d2 := (hSw.1 _ _ hb).trans (HC.out k _ hy 1 (by omega))
              have d3 := (hSw.1 _ _ hb).trans (HC.out k _ hy 2 (by omega))
              have d4 := (hSw.1 _ _ hb).trans (HC.out k _ hy 3 (by omega))
              simp only [lnL, List.getD_cons_succ, List.getD_cons_zero, Nat.add_zero] at d1 d2 d3 d4
              have g1 := (hSi.1 _ _ hrl).trans p1
              have g2 := (hSi.1 _ _ hrl).trans p2
              have hrw : r < wr.heap.size := hSi.2.2.1 _ hrl
              have hq0 := cntJ_in L ⟨ax, ay⟩ k
              have hst := cntJ_step L ⟨ax, ay⟩ k _ hy
              simp only at hst
              have HSI := Lib.hid hSi
              generalize cntJ L ⟨ax, ay⟩ k = qq at *
              have w1 : IntKind.i64.wrap (qq + 1) = qq + 1 := IntWalk.i64_in _ (by omega)
              have w2 : IntKind.i64.wrap (qq - 1) = qq - 1 := IntWalk.i64_in _ (by omega)
              have w3 : IntKind.i64.wrap (qq + 1 - 1) = qq + 1 - 1 := IntWalk.i64_in _ (by omega)
              have w5 : wrap64 qq = qq := by unfold wrap64; omega
              have v1 : IntKind.i64.wrap ((k : Int) + 1) = (k : Int) + 1 := IntWalk.i64_in _ (by omega)
              have hk0 : (0 : Int) ≤ k := by omega
              clear hy hnn hSw p1 p2 hrl hSi hq0
              have hw4 : qq + 1 - 1 = qq := by omega
              have HW4 := Lib.hid hw4
              clear hw4
              rcases cnt_cases ex ey ax ay with h1 | ⟨e0, h1⟩ | ⟨e0, h1⟩ <;> rcases cnt_cases fx fy ax ay with h2 | ⟨f0, h2⟩ | ⟨f0, h2⟩
              · rw [if_pos h1] at hst
                rw [if_pos h2] at hst
                have HQ := Lib.hid hst
                clear hst
                obtain ⟨rfl, rfl⟩ := h1
                obtain ⟨rfl, rfl⟩ := h2
                go_wp2_with fail
                go_roundw
                case rel => exact ⟨k + 1, by omega, by go_num, by rw [HQ.out]; first | rfl | (congr 1; omega) | simp [w5], HSI.out.alloc _⟩
                case measure => simp [intOf]; omega
              · rw [if_pos h1] at hst
                rw [if_neg f0] at hst
                have HQ := Lib.hid hst
                clear hst
                obtain ⟨rfl, rfl⟩ := h1
                obtain ⟨rfl, f1, f2⟩ := h2
                clear f0
                go_wp2_with fail
                go_roundw
                case rel => exact ⟨k + 1, by omega, by go_num, by rw [HQ.out]; first | rfl | (congr 1; omega) | simp [w5], HSI.out.alloc _⟩
                case measure => simp [intOf]; omega
              · rw [if_pos h1] at hst
                rw [if_neg f0] at hst
                have HQ := Lib.hid hst
                clear hst
                obtain ⟨rfl, rfl⟩ := h1
                obtain ⟨f1, f2⟩ := h2
                clear f0
                go_wp2_with fail
                go_roundw
                case rel => exact ⟨k + 1, by omega, by go_num, by rw [HQ.out]; first | rfl | (congr 1; omega) | simp [w5], HSI.out.alloc _⟩
                case measure => simp [intOf]; omega
              · rw [if_neg e0] at hst
                rw [if_pos h2] at hst
                have HQ := Lib.hid hst
                clear hst
                obtain ⟨rfl, e1, e2⟩ := h1
                obtain ⟨rfl, rfl⟩ := h2
                clear e0
                go_wp2_with fail
                go_roundw
                case rel => exact ⟨k + 1, by omega, by go_num, by rw [HQ.out]; first | rfl | (congr 1; omega) | simp [w5], HSI.out.alloc _⟩
                case measure => simp [intOf]; omega
              · rw [if_neg e0] at hst
                rw [if_neg f0] at hst
                have HQ := Lib.hid hst
                clear hst
                obtain ⟨rfl, e1, e2⟩ := h1
                obtain ⟨rfl, f1, f2⟩ := h2
                clear e0
                clear f0
                go_wp2_with fail
                go_roundw
                case rel => exact ⟨k + 1, by omega, by go_num, by rw [HQ.out]; first | rfl | (congr 1; omega) | simp [w5], HSI.out.alloc _⟩
                case measure => simp [intOf]; omega
              · rw [if_neg e0] at hst
                rw [if_neg f0] at hst
                have HQ := Lib.hid hst
                clear hst
                obtain ⟨rfl, e1, e2⟩ := h1
                obtain ⟨f1, f2⟩ := h2
                clear e0
                clear f0
                go_wp2_with fail
                go_roundw
                case rel => exact ⟨k + 1, by omega, by go_num, by rw [HQ.out]; first | rfl | (congr 1; omega) | simp [w5], HSI.out.alloc _⟩
                case measure => simp [intOf]; omega
              · rw [if_neg e0] at hst
                rw [if_pos h2] at hst
                have HQ := Lib.hid hst
                clear hst
                obtain ⟨e1, e2⟩ := h1
                obtain ⟨rfl, rfl⟩ := h2
                clear e0
                go_wp2_with fail
                go_roundw
                case rel => exact ⟨k + 1, by omega, by go_num, by rw [HQ.out]; first | rfl | (congr 1; omega) | simp [w5], HSI.out.alloc _⟩
                case measure => simp [intOf]; omega
              · rw [if_neg e0] at hst
                rw [if_neg f0] at hst
                have HQ := Lib.hid hst
                clear hst
                obtain ⟨e1, e2⟩ := h1
                obtain ⟨rfl, f1, f2⟩ := h2
                clear e0
                clear f0
                go_wp2_with fail
                go_roundw
                case rel => exact ⟨k + 1, by omega, by go_num, by rw [HQ.out]; first | rfl | (congr 1; omega) | simp [w5], HSI.out.alloc _⟩
                case measure => simp [intOf]; omega
              · rw [if_neg e0] at hst
                rw [if_neg f0] at hst
                have HQ := Lib.hid hst
                clear hst
                obtain ⟨e1, e2⟩ := h1
                obtain ⟨f1, f2⟩ := h2
                clear e0
                clear f0
                go_wp2_with fail
                go_roundw
                case rel => exact ⟨k + 1, by omega, by go_num, by rw [HQ.out]; first | rfl | (congr 1; omega) | simp [w5], HSI.out.alloc _⟩
                case measure => simp [intOf]; omega
            · obtain rfl : k = n := by omega
              have hcl : cntJ L ⟨ax, ay⟩ k = cntL L ⟨ax, ay⟩ := by unfold cntL; rw [← HN.out]
              rw [hcl]
              have HSF := Lib.hid (HSN.out.trans hSi)
              clear hcl hSi p1 p2 hrl
              by_cases hzz : cntL L ⟨ax, ay⟩ = 0
              · rw [hzz]
                have HZZ := Lib.hid hzz
                clear hzz
                go_wp2_with fail
                go_roundw
                case rel => exact ⟨HSF.out, .inr (.inl ⟨rfl, HZZ.out⟩)⟩
                case measure => simp [intOf]
              · have hz3 : (cntL L ⟨ax, ay⟩ == 0) = false := by simp [hzz]
                have e : closedB L = false := closed_not L j _ HP.out (by rw [HCK.out, hz3]; simp)
                have E := Lib.hid e
                clear e
                generalize cntL L ⟨ax, ay⟩ = qz at *
                go_wp2_with fail
                go_ret
                exact ⟨by rw [E.out]; rfl, HSF.out⟩
        · clear hSz
          go_upto_region 9 with fail
          refine wp_named fun wn hwn => ?_
          have hSn : Since wr wn := by subst hwn; exact (Since.refl wr).alloc _
          have p1 : wn.cell? ⟨wr.heap.size, 0, none⟩ = some (.int .i64 bx) := by subst hwn; simp
          have p2 : wn.cell? ⟨wr.heap.size, 1, none⟩ = some (.int .i64 bz) := by subst hwn; simp
          have hrl : wr.heap.size < wn.heap.size := by subst hwn; simp
          clear hwn
          have HSN := Lib.hid (hSm.trans hSn)
          clear hSm hSn
          obtain ⟨r, hr0⟩ : ∃ r, r = wr.heap.size := ⟨_, rfl⟩
          rw [← hr0] at p1 p2 hrl ⊢
          clear hr0
          go_loopw [7, 26] (fun z y wi => ∃ k : Nat, k ≤ n ∧ y = .int .i64 (k : Int) ∧ z = .int .i64 (cntJ L ⟨bx, bz⟩ k) ∧ Since wn wi) (fun _ y _ => n - (intOf y).toNat)
          case atStart => exact ⟨0, by omega, rfl, rfl, Since.refl _⟩
          case round =>
            obtain ⟨k, hk, rfl, rfl, hSi⟩ := hrel
            by_cases hkn : k < n
            · have hkn' : (k : Int) < n := by omega
              have hnn := HN.out
              obtain ⟨y, hy⟩ : ∃ y, L[k]? = some y := ⟨_, List.getElem?_eq_getElem (by omega)⟩
              obtain ⟨ex, ey, fx, fy⟩ := y
              have hSw := HSN.out.trans hSi
              have d1 := (hSw.1 _ _ hb).trans (HC.out k _ hy 0 (by omega))
              have d2 := (hSw.1 _ _ hb).trans (HC.out k _ hy 1 (by omega))
              have d3 := (hSw.1 _ _ hb).trans (HC.out k _ hy 2 (by omega))
              have d4 := (hSw.1 _ _ hb).trans (HC.out k _ hy 3 (by omega))
              simp only [lnL, List.getD_cons_succ, List.getD_cons_zero, Nat.add_zero] at d1 d2 d3 d4
              have g1 := (hSi.1 _ _ hrl).trans p1
              have g2 := (hSi.1 _ _ hrl).trans p2
              have hrw : r < wr.heap.size := hSi.2.2.1 _ hrl
              have hq0 := cntJ_in L ⟨bx, bz⟩ k
              have hst := cntJ_step L ⟨bx, bz⟩ k _ hy
              simp only at hst
              have HSI := Lib.hid hSi
              generalize cntJ L ⟨bx, bz⟩ k = qq at *
              have w1 : IntKind.i64.wrap (qq + 1) = qq + 1 := IntWalk.i64_in _ (by omega)
              have w2 : IntKind.i64.wrap (qq - 1) = qq - 1 := IntWalk.i64_in _ (by omega)
              have w3 : IntKind.i64.wrap (qq + 1 - 1) = qq + 1 - 1 := IntWalk.i64_in _ (by omega)
              have w5 : wrap64 qq = qq := by unfold wrap64; omega
              have v1 : IntKind.i64.wrap ((k : Int) + 1) = (k : Int) + 1 := IntWalk.i64_in _ (by omega)
              have hk0 : (0 : Int) ≤ k := by omega
              clear hy hnn hSw p1 p2 hrl hSi hq0
              have hw4 : qq + 1 - 1 = qq := by omega
              have HW4 := Lib.hid hw4
              clear hw4
              rcases cnt_cases ex ey bx bz with h1 | ⟨e0, h1⟩ | ⟨e0, h1⟩ <;> rcases cnt_cases fx fy bx bz with h2 | ⟨f0, h2⟩ | ⟨f0, h2⟩
              · rw [if_pos h1] at hst
                rw [if_pos h2] at hst
                have HQ := Lib.hid hst
                clear hst
                obtain ⟨rfl, rfl⟩ := h1
                obtain ⟨rfl, rfl⟩ := h2
                go_wp2_with fail
                go_roundw
                case rel => exact ⟨k + 1, by omega, by go_num, by rw [HQ.out]; first | rfl | (congr 1; omega) | simp [w5], HSI.out.alloc _⟩
                case measure => simp [intOf]; omega
              · rw [if_pos h1] at hst
                rw [if_neg f0] at hst
                have HQ := Lib.hid hst
                clear hst
                obtain ⟨rfl, rfl⟩ := h1
                obtain ⟨rfl, f1, f2⟩ := h2
                clear f0
                go_wp2_with fail
                go_roundw
                case rel => exact ⟨k + 1, by omega, by go_num, by rw [HQ.out]; first | rfl | (congr 1; omega) | simp [w5], HSI.out.alloc _⟩
                case measure => simp [intOf]; omega
              · rw [if_pos h1] at hst
                rw [if_neg f0] at hst
                have HQ := Lib.hid hst
                clear hst
                obtain ⟨rfl, rfl⟩ := h1
                obtain ⟨f1, f2⟩ := h2
                clear f0
                go_wp2_with fail
                go_roundw
                case rel => exact ⟨k + 1, by omega, by go_num, by rw [HQ.out]; first | rfl | (congr 1; omega) | simp [w5], HSI.out.alloc _⟩
                case measure => simp [intOf]; omega
              · rw [if_neg e0] at hst
                rw [if_pos h2] at hst
                have HQ := Lib.hid hst
                clear hst
                obtain ⟨rfl, e1, e2⟩ := h1
                obtain ⟨rfl, rfl⟩ := h2
                clear e0
                go_wp2_with fail
                go_roundw
                case rel => exact ⟨k + 1, by omega, by go_num, by rw [HQ.out]; first | rfl | (congr 1; omega) | simp [w5], HSI.out.alloc _⟩
                case measure => simp [intOf]; omega
              · rw [if_neg e0] at hst
                rw [if_neg f0] at hst
                have HQ := Lib.hid hst
                clear hst
                obtain ⟨rfl, e1, e2⟩ := h1
                obtain ⟨rfl, f1, f2⟩ := h2
                clear e0
                clear f0
                go_wp2_with fail
                go_roundw
                case rel => exact ⟨k + 1, by omega, by go_num, by rw [HQ.out]; first | rfl | (congr 1; omega) | simp [w5], HSI.out.alloc _⟩
                case measure => simp [intOf]; omega
              · rw [if_neg e0] at hst
                rw [if_neg f0] at hst
                have HQ := Lib.hid hst
                clear hst
                obtain ⟨rfl, e1, e2⟩ := h1
                obtain ⟨f1, f2⟩ := h2
                clear e0
                clear f0
                go_wp2_with fail
                go_roundw
                case rel => exact ⟨k + 1, by omega, by go_num, by rw [HQ.out]; first | rfl | (congr 1; omega) | simp [w5], HSI.out.alloc _⟩
                case measure => simp [intOf]; omega
              · rw [if_neg e0] at hst
                rw [if_pos h2] at hst
                have HQ := Lib.hid hst
                clear hst
                obtain ⟨e1, e2⟩ := h1
                obtain ⟨rfl, rfl⟩ := h2
                clear e0
                go_wp2_with fail
                go_roundw
                case rel => exact ⟨k + 1, by omega, by go_num, by rw [HQ.out]; first | rfl | (congr 1; omega) | simp [w5], HSI.out.alloc _⟩
                case measure => simp [intOf]; omega
              · rw [if_neg e0] at hst
                rw [if_neg f0] at hst
                have HQ := Lib.hid hst
                clear hst
                obtain ⟨e1, e2⟩ := h1
                obtain ⟨rfl, f1, f2⟩ := h2
                clear e0
                clear f0
                go_wp2_with fail
                go_roundw
                case rel => exact ⟨k + 1, by omega, by go_num, by rw [HQ.out]; first | rfl | (congr 1; omega) | simp [w5], HSI.out.alloc _⟩
                case measure => simp [intOf]; omega
              · rw [if_neg e0] at hst
                rw [if_neg f0] at hst
                have HQ := Lib.hid hst
                clear hst
                obtain ⟨e1, e2⟩ := h1
                obtain ⟨f1, f2⟩ := h2
                clear e0
                clear f0
                go_wp2_with fail
                go_roundw
                case rel => exact ⟨k + 1, by omega, by go_num, by rw [HQ.out]; first | rfl | (congr 1; omega) | simp [w5], HSI.out.alloc _⟩
                case measure => simp [intOf]; omega
            · obtain rfl : k = n := by omega
              have hcl : cntJ L ⟨bx, bz⟩ k = cntL L ⟨bx, bz⟩ := by unfold cntL; rw [← HN.out]
              rw [hcl]
              have HSF := Lib.hid (HSN.out.trans hSi)
              clear hcl hSi p1 p2 hrl
              by_cases hzz : cntL L ⟨bx, bz⟩ = 0
              · rw [hzz]
                have HZZ := Lib.hid hzz
                clear hzz
                go_wp2_with fail
                go_roundw
                case rel => exact ⟨HSF.out, .inr (.inr ⟨rfl, hz1, HZZ.out⟩)⟩
                case measure => simp [intOf]
              · have hz3 : (cntL L ⟨bx, bz⟩ == 0) = false := by simp [hzz]
                have e : closedB L = false := closed_not L j _ HP.out (by rw [HCK.out, hz3]; simp)
                have E := Lib.hid e
                clear e
                generalize cntL L ⟨bx, bz⟩ = qz at *
                go_wp2_with fail
                go_ret
                exact ⟨by rw [E.out]; rfl, HSF.out⟩
        · have HZ := Lib.hid (And.intro hz1 hz2)
          clear hz1 hz2 hSz
          go_wp2_with fail
          go_roundw
          case rel =>
            refine ⟨j + 1, by omega, by go_num, hSm, fun i x hi hx => ?_⟩
            rcases Nat.lt_or_ge i j with k | k
            · exact HA.out i x k hx
            · obtain rfl : i = j := by omega
              rw [HP.out] at hx
              obtain rfl := Option.some.inj hx
              rw [HCK.out, HZ.out.1, HZ.out.2]
              rfl
          case measure => simp [intOf]; omega
    · obtain rfl : j = n := by omega
      have e : closedB L = true := closed_all L (fun i x hi => hA i x (by
        have hnn := HN.out
        rcases Nat.lt_or_ge i L.length with k | k
        · omega
        · rw [List.getElem?_eq_none k] at hi; cases hi) hi)
      have E := Lib.hid e
      clear e hA
      go_wp2_with fail
      go_ret
      exact ⟨by rw [E.out]; rfl, hSr⟩
end Go.Proofs.YtcfghkphkmoikaaGreat
