import Derived.Test.YteioennfpkoagaaPlnA
import Derived.Test.YteioennfpkoagaaPlnX
import Derived.Test.YteioennfpkoagaaChkZ
import Derived.Test.YteioennfpkoagaaChkF
import Derived.Test.YteioennfpkoagaaChkU
import Derived.OwnWalk
import Derived.Deep.DeepCutAuto
namespace Go.Proofs.Yteioennfpkoagaa.C
open Go.RowKit
attribute [local go_sem ↓] Go.wp_at_zero Go.wp_at_succ

theorem wrap_tick {f p : Int} (h1 : 1 ≤ p) (h2 : p ≤ 240) (h3 : 0 ≤ f) (h4 : f ≤ 240) : IntKind.i64.wrap (f % p) = f % p ∧ IntKind.i64.wrap (f - f % p) = f - f % p ∧ IntKind.i64.wrap (f - f % p + p) = f - f % p + p := by
  have a := Int.emod_lt_of_pos f (show 0 < p by omega)
  have b := Int.emod_nonneg f (show p ≠ 0 by omega)
  exact ⟨wrap_small _ (by omega) (by omega), wrap_small _ (by omega) (by omega), wrap_small _ (by omega) (by omega)⟩
theorem row_at {w : World} {b : Nat} {l : List Int} {k : Nat} (h : w.heap[b]? = some (.cells (intsC l).toArray 3 (0, 0))) (hk : k < l.length) : w.cell? ⟨b, k, none⟩ = some (.int .i64 (l.getD k 0)) := by
  rw [cell_of_blk h, List.getElem?_toArray]; exact intsC_at l k hk
theorem row_set {w : World} {b : Nat} {l : List Int} (h : w.heap[b]? = some (.cells (intsC l).toArray 3 (0, 0))) (k : Nat) (v : Int) : (w.setCell ⟨b, k, none⟩ (.int .i64 v)).heap[b]? = some (.cells (intsC (l.set k v)).toArray 3 (0, 0)) := by
  rw [blk_set k _ h, List.setIfInBounds_toArray, intsC_set]

set_option maxHeartbeats 4000000 in
set_option maxRecDepth 100000 in
theorem refPlan_any (f : Int) (ps : List PartD) (cs : List ChanD) (pv cv : Value) (w : World) (hp : PartsV w pv ps) (hc : ChansV w cv cs) (hl : ps.length ≤ 4611686018427387903) :
    Calls Try.prog 11 #[.agg #[.int .i64 f, pv, cv]] w fun e w' => (¬ checkF ⟨f, ps, cs⟩ = 0 ∧ e = .returned (.tuple #[.slice none 0 0, .int .i64 (checkF ⟨f, ps, cs⟩)]) ∧ Below w.heap.size w w') ∨ (checkF ⟨f, ps, cs⟩ = 0 ∧ Below w.heap.size w w' ∧ ∃ v, e = .returned (.tuple #[v, .int .i64 0]) ∧ w'.ownsRow w.heap.size 3 1 v (planF ⟨f, ps, cs⟩).length (intsC (planF ⟨f, ps, cs⟩))) := by
  have HP : Hid (PartsV w pv ps) := hp
  have HCV : Hid (ChansV w cv cs) := hc
  obtain ⟨va, cap, rfl, hx⟩ := hp
  clear hx
  obtain ⟨ca, ck, rfl, hx⟩ := hc
  clear hx
  have b0 : Below w.heap.size w (w.alloc (.cells #[.int .i64 f, .slice va ps.length cap, .slice ca cs.length ck] 34)) := (Below.refl _ w).alloc (Nat.le_refl _) _
  have h0 := heap_new w (.cells #[.int .i64 f, .slice va ps.length cap, .slice ca cs.length ck] 34)
  go_enter Try.func11, Try.ntmps11
  go_wp2_with fail
  generalize w.alloc (.cells #[.int .i64 f, .slice va ps.length cap, .slice ca cs.length ck] 34) = W0 at *
  refine (check_any f ps cs _ _ W0 (PartsV.below HP.out b0) (ChansV.below HCV.out b0) hl).mono ?_
  rintro e w1 ⟨rfl, hb1⟩
  have b1 := b0.trans (hb1.mono b0.size)
  have h1 := (hb1.block _ (lt_of_blk h0)).trans h0
  clear b0 h0 hb1
  by_cases hz : checkF ⟨f, ps, cs⟩ = 0
  · have HZ : Hid _ := hz
    obtain ⟨hf1, hf2, hp8, _, hpo, _⟩ := check_ok hz
    simp only [] at hf1 hf2 hp8
    have HPO : Hid (∀ k (hk : k < ps.length), 1 ≤ ps[k].period ∧ ps[k].period ≤ 240 ∧ 0 ≤ ps[k].duration ∧ ps[k].duration ≤ 240) := fun k hk => by
      have h := partErr_ok (hpo k hk).2
      simp only [] at h
      exact ⟨by omega, by omega, by omega, by omega⟩
    have HD : Hid (∀ k (h : k < ps.length), 0 ≤ ps[k].duration ∧ ps[k].duration ≤ 240) := fun k hk => ⟨(HPO.out k hk).2.2.1, (HPO.out k hk).2.2.2⟩
    rw [hz]
    clear hz hpo
    obtain ⟨F, rfl⟩ : ∃ F : Nat, f = F := ⟨f.toNat, by omega⟩
    have hmk := make_ints w1 ps.length (by omega)
    have y1 : w1.cell? ⟨w.heap.size, 1, none⟩ = some (.slice va ps.length cap) := by rw [cell_of_blk h1]; rfl
    have hpl : ps.length ≤ 9223372036854775807 := by omega
    go_wp2_with fail
    have b2 := b1.alloc (o := .cells (intsC (List.replicate ps.length 0)).toArray 3) b1.size
    have l2 := heap_new w1 (.cells (intsC (List.replicate ps.length 0)).toArray 3)
    have m2 := heap_old w1 (.cells (intsC (List.replicate ps.length 0)).toArray 3) h1
    have hlb : w1.heap.size < (w1.alloc (.cells (intsC (List.replicate ps.length 0)).toArray 3)).heap.size := by simp
    have hmb : w.heap.size ≠ w1.heap.size := by have := lt_of_blk h1; omega
    have hmb2 := lt_of_blk h1
    clear y1 hmk b1 h1
    generalize w1.alloc (.cells (intsC (List.replicate ps.length 0)).toArray 3) = W2 at *
    generalize w1.heap.size = lb at *
    go_loopw [6, 7] (fun o i wr => ∃ (t : Nat) (oa : Option Addr) (oc : Nat), i = .int .i64 t ∧ o = .slice oa t oc ∧ t ≤ F ∧ wr.ownsRow W2.heap.size 3 1 (.slice oa t oc) t (intsC (planN ps t).1) ∧ wr.heap[lb]? = some (.cells (intsC (planN ps t).2).toArray 3 (0, 0)) ∧ wr.heap[w.heap.size]? = some (.cells #[.int .i64 (F : Int), .slice va ps.length cap, .slice ca cs.length ck] 34 (0, 0)) ∧ Below w.heap.size w wr ∧ W2.heap.size ≤ wr.heap.size) (fun _ i _ => F - (intOf i).toNat)
    case atStart => exact ⟨0, none, 0, rfl, rfl, by omega, ⟨rfl, .inl ⟨rfl, rfl⟩⟩, l2, m2, b2, Nat.le_refl _⟩
    case round =>
      obtain ⟨t, oa, oc, rfl, rfl, htF, hown, hleft, hman, hbel, hsz⟩ := hrel
      have y0 : wr.cell? ⟨w.heap.size, 0, none⟩ = some (.int .i64 (F : Int)) := by rw [cell_of_blk hman]; rfl
      by_cases hlt : t < F
      · have hlt' : (t : Int) < (F : Int) := by omega
        have hLN := (planN_len ps t).2
        have HIN : Hid (InB (planN ps t).2) := planN_in ps HD.out t
        have HNX : Hid (planN ps (t + 1) = ((planN ps t).1 ++ [(planStep t ps (planN ps t).2).1], (planStep t ps (planN ps t).2).2)) := rfl
        generalize (planN ps t).2 = ls at *
        generalize (planN ps t).1 = outs at *
        go_wp2_with fail
        clear y0
        generalize wr = wz at *
        go_loopw [8, 9, 10] (fun b d i wx => ∃ k : Nat, i = .int .i64 k ∧ b = .int .i64 (bestK t ps ls k).1 ∧ d = .int .i64 (bestK t ps ls k).2 ∧ k ≤ ps.length ∧ wx.ownsRow W2.heap.size 3 1 (.slice oa t oc) t (intsC outs) ∧ wx.heap[lb]? = some (.cells (intsC (refK t ps ls k)).toArray 3 (0, 0)) ∧ wx.heap[w.heap.size]? = some (.cells #[.int .i64 (F : Int), .slice va ps.length cap, .slice ca cs.length ck] 34 (0, 0)) ∧ Below w.heap.size w wx ∧ W2.heap.size ≤ wx.heap.size) (fun _ _ i _ => ps.length - (intOf i).toNat)
        case atStart => exact ⟨0, rfl, rfl, rfl, by omega, hown, hleft, hman, hbel, hsz⟩
        case round =>
          obtain ⟨k, rfl, rfl, rfl, hk, hown, hleft, hman, hbel, hsz⟩ := hrel
          have y1 : wr.cell? ⟨w.heap.size, 1, none⟩ = some (.slice va ps.length cap) := by rw [cell_of_blk hman]; rfl
          by_cases hkl : k < ps.length
          · have hkl' : (k : Int) < (ps.length : Int) := by omega
            have hk0 : (0 : Int) ≤ (k : Int) := by omega
            obtain ⟨va', cap', hvv, hvc⟩ := PartsV.below HP.out hbel
            cases hvv
            obtain ⟨pb, po, rv, rfl, _, d1, d2, _⟩ := hvc k hkl
            clear hvc
            have hrl : (refK t ps ls k).length = ps.length := by rw [refK_len]; exact hLN
            have HRS : Hid _ := refK_step (t := t) (ls := ls) hkl
            have HBS : Hid _ := bestK_step (t := t) (ls := ls) hkl
            obtain ⟨p1, p2, _, _⟩ := HPO.out k hkl
            have g1 := row_at hleft (show k < (refK t ps ls k).length by omega)
            have fz := frozen_of_blk (i := k) hleft
            have hpw : PartsV wr _ ps := PartsV.below HP.out hbel
            clear hpw
            generalize ps[k] = x at *
            obtain ⟨w1', w2', w3'⟩ := wrap_tick p1 p2 (show (0 : Int) ≤ (t : Int) by omega) (show (t : Int) ≤ 240 by omega)
            have hpz : ¬ x.period = 0 := by omega
            have ht0 : (0 : Int) ≤ (t : Int) := by omega
            generalize hR : refK t ps ls k = R at *
            generalize hBB : bestK t ps ls k = BB at *
            obtain ⟨B, D⟩ := BB
            simp only [] at HBS
            have HRR : Hid _ := hR
            have HBB : Hid _ := hBB
            clear hR hBB
            have hbk1 : pb ≠ lb := by
              have e1 := World.block_lt_of_cell? wr _ d1
              obtain ⟨va2, cap2, hvv, hvc⟩ := HP.out
              cases hvv
              obtain ⟨pb2, po2, rv2, hbb, q0, _⟩ := hvc k hkl
              cases hbb
              have := World.block_lt_of_cell? w _ q0
              simp only [] at this
              omega
            generalize hcc : R.getD k 0 = c0 at *
            have HCC : Hid _ := hcc
            clear hcc
            have hdue : dueF t x = (t : Int) - (t : Int) % x.period + x.period := rfl
            cases hmod : ((t : Int) % x.period == 0)
            · have hfr : fresh1 t x c0 = c0 := by unfold fresh1; rw [if_neg (by simpa using hmod)]
              rw [hfr] at HRS HBS
              have hset : R.set k c0 = R := by
                rw [← HCC.out]
                apply List.ext_getElem?
                intro j
                rw [List.getElem?_set]
                by_cases hj : k = j
                · subst hj
                  simp [show k < R.length by omega, List.getD]
                · simp [hj]
              rw [hset] at HRS
              have HL1 : Hid _ := hleft
              rw [← HRS.out] at hleft
              by_cases q1 : 0 < c0
              · have q1' : decide (0 < c0) = true := by simp [q1]
                by_cases q2 : B < 0
                · have q2' : decide (B < 0) = true := by simp [q2]
                  rw [if_pos ⟨q1, .inl q2⟩, hdue] at HBS
                  go_wp2_with fail
                  go_roundw
                  case rel => exact ⟨k + 1, by go_num, by rw [HBS.out], by rw [HBS.out], by omega, hown, hleft, hman, hbel, hsz⟩
                  case measure => simp [intOf]; omega
                · have q2' : decide (B < 0) = false := by simp; omega
                  by_cases q3 : (t : Int) - (t : Int) % x.period + x.period < D
                  · have q3' : decide ((t : Int) - (t : Int) % x.period + x.period < D) = true := by simp [q3]
                    rw [if_pos ⟨q1, .inr q3⟩, hdue] at HBS
                    go_wp2_with fail
                    go_roundw
                    case rel => exact ⟨k + 1, by go_num, by rw [HBS.out], by rw [HBS.out], by omega, hown, hleft, hman, hbel, hsz⟩
                    case measure => simp [intOf]; omega
                  · have q3' : decide ((t : Int) - (t : Int) % x.period + x.period < D) = false := by simp; omega
                    rw [if_neg (by rw [hdue]; omega)] at HBS
                    go_wp2_with fail
                    go_roundw
                    case rel => exact ⟨k + 1, by go_num, by rw [HBS.out], by rw [HBS.out], by omega, hown, hleft, hman, hbel, hsz⟩
                    case measure => simp [intOf]; omega
              · have q1' : decide (0 < c0) = false := by simp; omega
                rw [if_neg (by omega)] at HBS
                go_wp2_with fail
                go_roundw
                case rel => exact ⟨k + 1, by go_num, by rw [HBS.out], by rw [HBS.out], by omega, hown, hleft, hman, hbel, hsz⟩
                case measure => simp [intOf]; omega
            · have hfr : fresh1 t x c0 = x.duration := by unfold fresh1; rw [if_pos (by simpa using hmod)]
              rw [hfr] at HRS HBS
              have hleft2 := row_set hleft k x.duration
              have z1 : (wr.setCell ⟨lb, k, none⟩ (.int .i64 x.duration)).cell? ⟨lb, k, none⟩ = some (.int .i64 x.duration) := by
                rw [row_at hleft2 (by rw [List.length_set]; omega), getD_set _ _ _ _ (by omega), if_pos rfl]
              rw [← HRS.out] at hleft2
              have hown2 := own_kept hown (grown_set wr lb k (.int .i64 x.duration)) (fun j e => .inl (by cases e; exact hlb))
              have hman2 : (wr.setCell ⟨lb, k, none⟩ (.int .i64 x.duration)).heap[w.heap.size]? = _ := (blk_far k (.int .i64 x.duration) hmb).trans hman
              have hbel2 := hbel.setCell (p := ⟨lb, k, none⟩) (Nat.le_of_lt hmb2) (.int .i64 x.duration)
              have hsz2 : W2.heap.size ≤ (wr.setCell ⟨lb, k, none⟩ (.int .i64 x.duration)).heap.size := by simpa using hsz
              by_cases q1 : 0 < x.duration
              · have q1' : decide (0 < x.duration) = true := by simp [q1]
                by_cases q2 : B < 0
                · have q2' : decide (B < 0) = true := by simp [q2]
                  rw [if_pos ⟨q1, .inl q2⟩, hdue] at HBS
                  go_wp2_with fail
                  go_roundw
                  case rel => exact ⟨k + 1, by go_num, by rw [HBS.out], by rw [HBS.out], by omega, hown2, hleft2, hman2, hbel2, hsz2⟩
                  case measure => simp [intOf]; omega
                · have q2' : decide (B < 0) = false := by simp; omega
                  by_cases q3 : (t : Int) - (t : Int) % x.period + x.period < D
                  · have q3' : decide ((t : Int) - (t : Int) % x.period + x.period < D) = true := by simp [q3]
                    rw [if_pos ⟨q1, .inr q3⟩, hdue] at HBS
                    go_wp2_with fail
                    go_roundw
                    case rel => exact ⟨k + 1, by go_num, by rw [HBS.out], by rw [HBS.out], by omega, hown2, hleft2, hman2, hbel2, hsz2⟩
                    case measure => simp [intOf]; omega
                  · have q3' : decide ((t : Int) - (t : Int) % x.period + x.period < D) = false := by simp; omega
                    rw [if_neg (by rw [hdue]; omega)] at HBS
                    go_wp2_with fail
                    go_roundw
                    case rel => exact ⟨k + 1, by go_num, by rw [HBS.out], by rw [HBS.out], by omega, hown2, hleft2, hman2, hbel2, hsz2⟩
                    case measure => simp [intOf]; omega
              · have q1' : decide (0 < x.duration) = false := by simp; omega
                rw [if_neg (by omega)] at HBS
                go_wp2_with fail
                go_roundw
                case rel => exact ⟨k + 1, by go_num, by rw [HBS.out], by rw [HBS.out], by omega, hown2, hleft2, hman2, hbel2, hsz2⟩
                case measure => simp [intOf]; omega
          · have hkl' : ¬ (k : Int) < (ps.length : Int) := by omega
            have hke : k = ps.length := by omega
            subst hke
            obtain ⟨i0, hi, hz0, hz1, hz2⟩ := info_parts intInfo
            have HPS : Hid (planStep t ps ls = planStep t ps ls) := rfl
            conv at HPS => arg 1; rhs; unfold planStep
            have hrl : (refK t ps ls ps.length).length = ps.length := by rw [refK_len]; exact hLN
            have hpos := bestK_pos (t := t) hLN ps.length (Nat.le_refl _)
            have hin := refK_in (t := t) hLN HIN.out HD.out ps.length
            have HB0 : Hid _ := hin
            clear hin
            generalize hR : refK t ps ls ps.length = R at *
            generalize (bestK t ps ls ps.length).2 = D at *
            generalize hB : (bestK t ps ls ps.length).1 = B at *
            clear hR hB
            rcases hpos with ⟨rfl, _⟩ | ⟨c1, c2, c3⟩
            · have HS : Hid (planStep t ps ls = (-1, R)) := by show _ = _; rw [HPS.out, if_pos (by omega)]
              clear HPS
              go_wp2_with (at_builtin; refine wpList_append_own _ rfl _ _ 38 rfl W2.heap.size 3 i0 (.int .i64 0) 1 8 Try.underlying38 hi hz0 hz1 hz2 rfl (by decide) _ _ _ rfl (own_below hown ((Below.refl _ _).alloc (Nat.le_refl _) _)) ⟨wr.heap.size, 0, none⟩ 1 1 [.int .i64 (-1)] rfl rfl ?c1 ?c2 ?c3 ?c4 ?c5 ?_)
              case c2 => first | rfl | (simp [Value.oneCell']; done) | (intro u hu; simp at hu; subst hu; rfl)
              case c3 => unfold maxLen; omega
              case c4 => omega
              case c5 => first | omega | (simp; omega)
              intro v' w3 hown3 hgrow _
              obtain ⟨oa3, oc3, rfl⟩ := own_shape hown3
              have hne : ∀ j, j < W2.heap.size → some j ≠ (Value.slice oa t oc).ownBlock := fun j hj e => by have := (hown.lt j e.symm).1; omega
              have hl3 : w3.heap[lb]? = some (.cells (intsC R).toArray 3 (0, 0)) := (hgrow.block lb (by have := lt_of_blk hleft; simp; omega) (hne lb hlb)).trans (heap_old _ _ hleft)
              have hm3 : w3.heap[w.heap.size]? = _ := (hgrow.block w.heap.size (by have := lt_of_blk hman; simp; omega) (hne _ (by omega))).trans (heap_old _ _ hman)
              have hb3 := (hbel.alloc hbel.size (.cells #[.int .i64 (-1)] 3)).grown hgrow (by have := hbel.size; simp; omega) (fun j hj => by have := (hown.lt j hj).1; omega)
              have hs3 : W2.heap.size ≤ w3.heap.size := Nat.le_trans hsz (Nat.le_trans (by simp) hgrow.size)
              have HN1 : Hid (intsC outs ++ [.int .i64 (-1)] = intsC (planN ps (t + 1)).1) := by show _ = _; rw [HNX.out, HS.out]; simp [intsC]
              have HN2 : Hid (R = (planN ps (t + 1)).2) := by show _ = _; rw [HNX.out, HS.out]
              rw [HN1.out] at hown3
              rw [HN2.out] at hl3
              go_wp2_with fail
              go_roundw
              case rel => exact ⟨t + 1, oa3, oc3, by go_num, rfl, by omega, hown3, hl3, hm3, hb3, hs3⟩
              case measure => simp [intOf]; omega
            · obtain ⟨bn, rfl⟩ : ∃ bn : Nat, B = bn := ⟨B.toNat, by omega⟩
              simp only [Int.toNat_natCast] at c3
              have hbl : bn < R.length := by omega
              have hbl' : (bn : Int) < (ps.length : Int) := by omega
              have hb0 : (0 : Int) ≤ (bn : Int) := by omega
              have hin := HB0.out bn hbl
              have HS : Hid (planStep t ps ls = ((bn : Int), R.set bn (R.getD bn 0 - 1))) := by show _ = _; rw [HPS.out, if_neg (by omega)]; simp only [Int.toNat_natCast]
              clear HPS
              have g1 := row_at hleft hbl
              have fz := frozen_of_blk (i := bn) hleft
              have hleft2 := row_set hleft bn (R.getD bn 0 - 1)
              generalize hcc : R.getD bn 0 = c at *
              clear hcc
              have hw : IntKind.i64.wrap (c - 1) = c - 1 := wrap_small _ (by omega) (by omega)
              have hown2 := own_kept hown (grown_set wr lb bn (.int .i64 (c - 1))) (fun j e => .inl (by cases e; exact hlb))
              have hman2 : (wr.setCell ⟨lb, bn, none⟩ (.int .i64 (c - 1))).heap[w.heap.size]? = _ := (blk_far bn (.int .i64 (c - 1)) hmb).trans hman
              have hbel2 := hbel.setCell (p := ⟨lb, bn, none⟩) (Nat.le_of_lt hmb2) (.int .i64 (c - 1))
              have hsz2 : W2.heap.size ≤ (wr.setCell ⟨lb, bn, none⟩ (.int .i64 (c - 1))).heap.size := by simpa using hsz
              clear hbel hman hleft hown hsz
              have hownL : ∀ j, (Value.slice oa t oc).ownBlock = some j → W2.heap.size ≤ j := fun j hj => (hown2.lt j hj).1
              go_upto_region 23 with fail
              clear g1 fz
              generalize wr.setCell ⟨lb, bn, none⟩ (.int .i64 (c - 1)) = V at *
              go_wp2_with (at_builtin; refine wpList_append_own _ rfl _ _ 38 rfl W2.heap.size 3 i0 (.int .i64 0) 1 8 Try.underlying38 hi hz0 hz1 hz2 rfl (by decide) _ _ _ rfl (own_below hown2 ((Below.refl _ _).alloc (Nat.le_refl _) _)) ⟨V.heap.size, 0, none⟩ 1 1 [.int .i64 bn] rfl rfl ?d1 ?d2 ?d3 ?d4 ?d5 ?_)
              case d2 => first | rfl | (simp [Value.oneCell']; done) | (intro u hu; simp at hu; subst hu; rfl)
              case d3 => unfold maxLen; omega
              case d4 => omega
              case d5 => first | omega | (simp; omega)
              intro v' w3 hown3 hgrow _
              obtain ⟨oa3, oc3, rfl⟩ := own_shape hown3
              have hne : ∀ j, j < W2.heap.size → some j ≠ (Value.slice oa t oc).ownBlock := fun j hj e => by have := hownL j e.symm; omega
              have hl3 : w3.heap[lb]? = some (.cells (intsC (R.set bn (c - 1))).toArray 3 (0, 0)) := (hgrow.block lb (by have := lt_of_blk hleft2; simp at this ⊢; omega) (hne lb hlb)).trans (heap_old _ _ hleft2)
              have hm3 : w3.heap[w.heap.size]? = _ := (hgrow.block w.heap.size (by have := lt_of_blk hman2; simp at this ⊢; omega) (hne _ (by omega))).trans (heap_old _ _ hman2)
              have hb3 := (hbel2.alloc hbel2.size (.cells #[.int .i64 (bn : Int)] 3)).grown hgrow (by have := hbel2.size; simp at this ⊢; omega) (fun j hj => by have := hownL j hj; omega)
              have hs3 : W2.heap.size ≤ w3.heap.size := Nat.le_trans hsz2 (Nat.le_trans (by simp) hgrow.size)
              have HN1 : Hid (intsC outs ++ [.int .i64 (bn : Int)] = intsC (planN ps (t + 1)).1) := by show _ = _; rw [HNX.out, HS.out]; simp [intsC]
              have HN2 : Hid (R.set bn (c - 1) = (planN ps (t + 1)).2) := by show _ = _; rw [HNX.out, HS.out]
              rw [HN1.out] at hown3
              rw [HN2.out] at hl3
              go_wp2_with fail
              go_roundw
              case rel => exact ⟨t + 1, oa3, oc3, by go_num, rfl, by omega, hown3, hl3, hm3, hb3, hs3⟩
              case measure => simp [intOf]; omega
      · have hlt' : ¬ (t : Int) < (F : Int) := by omega
        have hte : t = F := by omega
        subst hte
        go_wp2_with fail
        go_ret2
        refine .inr ⟨HZ.out, hbel, _, rfl, ?_⟩
        have e : planF ⟨(t : Int), ps, cs⟩ = (planN ps t).1 := by unfold planF; simp only [Int.toNat_natCast]
        rw [e, (planN_len ps t).1]
        exact own_mono hown (by omega)
  · have hzz : (checkF ⟨f, ps, cs⟩ != 0) = true := by simp [hz]
    go_wp2_with fail
    go_ret2
    exact .inl ⟨hz, rfl, b1⟩
end Go.Proofs.Yteioennfpkoagaa.C
