import Derived.Test.YteioennfpkoagaaGreatDoorK14
import Derived.Test.YteioennfpkoagaaGreatDoorG39
import Derived.ArgAppend
import Derived.OwnWalk
import Derived.Deep.DeepCutAuto
namespace Go.Proofs.YteioennfpkoagaaGreatDoor.C
open Go.RowKit K
attribute [local go_sem ↓] Go.wp_at_zero Go.wp_at_succ

def perE (f : Int) (k : Nat) : Int := if k = 0 then 4 else if k = 1 then 6 else if k = 2 then 8 else if k = 3 then 12 else if k = 4 then 24 else f
theorem perE_ok {n k : Nat} (h : 24 ≤ n ∧ n ≤ 240) (h24 : n % 24 = 0) : 1 ≤ perE n k ∧ perE n k ≤ n ∧ (n : Int) % perE n k = 0 := by
  unfold perE
  split
  · omega
  split
  · omega
  split
  · omega
  split
  · omega
  split
  · omega
  · refine ⟨by omega, by omega, Int.emod_self⟩
theorem perE_at {w : World} {b : Nat} {f : Int} (h : w.heap[b]? = some (.cells #[.int .i64 4, .int .i64 6, .int .i64 8, .int .i64 12, .int .i64 24, .int .i64 f] 3 (0, 0))) (k : Nat) (hk : k < 6) : w.cell? ⟨b, k, none⟩ = some (.int .i64 (perE f k)) := by
  rw [cell_of_blk h]
  rcases (show k = 0 ∨ k = 1 ∨ k = 2 ∨ k = 3 ∨ k = 4 ∨ k = 5 by omega) with rfl | rfl | rfl | rfl | rfl | rfl <;> rfl
set_option maxRecDepth 100000 in
set_option maxHeartbeats 8000000 in
theorem loaded_law (I : KerI) (hMade : MadeF) (w : World) (htb : TB w) (u : Value) (L : List Int) (hL : IntsV w u L) (x1 x2 : Int) (hx1 : inI x1) (hx2 : inI x2) :
    Calls Tryz.prog 6 #[u, .int .i64 x1, .int .i64 x2] w fun e w' => e = .returned (.bool true) ∧ Below w.heap.size w w' := by
  obtain ⟨j0, hj0, hy0, hy1, hy2⟩ := parts_of infoPartM
  have HTB : Hid (TB w) := htb
  clear htb
  have HM : Hid _ := hMade w u L hL
  clear hMade hL
  go_enter Tryz.func6, Tryz.ntmps6
  go_wp2_with fail
  refine Calls.mono HM.out ?_
  rintro e w1 ⟨n, ps, cs, pv, cv, rfl, hm⟩
  have HMM : Hid (MadeM w n ps cs pv cv w1) := hm
  obtain ⟨va, cap, rfl, _⟩ := hm.parts
  obtain ⟨ca, ck, rfl, _⟩ := hm.chans
  have hfr := hm.fr
  have h24 := hm.f24
  have hco := check_ok hm.chk
  have hps : ps.length ≤ 6 := by obtain ⟨i, left, h1, h2⟩ := hm.li; have := h1.len; omega
  have hcl : cs.length ≤ 8 := hco.2.2.2.1
  have HRL : Hid (∀ k (hk : k < ps.length), ps[k].regs.length ≤ 4) := fun k hk => (hco.2.2.2.2.1 k hk).1
  clear hm HM hco
  have b0 := newB w1 (.cells #[.int .i64 n, .slice va ps.length cap, .slice ca cs.length ck] 34)
  have h0 := heap_new w1 (.cells #[.int .i64 n, .slice va ps.length cap, .slice ca cs.length ck] 34)
  have HPLAN : Hid _ := planC_true n ps cs _ _ (w1.alloc (.cells #[.int .i64 n, .slice va ps.length cap, .slice ca cs.length ck] 34)) (HMM.out.parts.below b0) (PartsC.below HMM.out.parts HMM.out.partsC b0) (HMM.out.chans.below b0) HMM.out.chansC (by omega) (by omega) (fun k hk => by have := HRL.out k hk; omega)
  have HB0 : Hid (Below w1.heap.size w1 (w1.alloc (.cells #[.int .i64 n, .slice va ps.length cap, .slice ca cs.length ck] 34))) := b0
  have HH0 : Hid ((w1.alloc (.cells #[.int .i64 n, .slice va ps.length cap, .slice ca cs.length ck] 34)).heap[w1.heap.size]? = some (.cells #[.int .i64 n, .slice va ps.length cap, .slice ca cs.length ck] 34 (0, 0))) := h0
  clear b0 h0
  go_wp2_with fail
  generalize w1.alloc (.cells #[.int .i64 n, .slice va ps.length cap, .slice ca cs.length ck] 34) = W0 at *
  refine Calls.mono HPLAN.out ?_
  rintro e w2 hor
  obtain ⟨_, hb2, v, rfl, hown⟩ : checkF ⟨n, ps, cs⟩ = 0 ∧ Below W0.heap.size W0 w2 ∧ ∃ v, e = .returned (.tuple #[v, .int .i64 0]) ∧ w2.ownsRow W0.heap.size 3 1 v (planF ⟨n, ps, cs⟩).length (intsC (planF ⟨n, ps, cs⟩)) := by
    rcases hor with ⟨h, _⟩ | h
    · exact absurd HMM.out.chk h
    · exact h
  obtain ⟨qa, qc, rfl⟩ := own_slice hown
  have HB2 : Hid (Below w1.heap.size w1 w2) := HB0.out.trans (hb2.mono HB0.out.size)
  have HM2 : Hid (w2.heap[w1.heap.size]? = some (.cells #[.int .i64 n, .slice va ps.length cap, .slice ca cs.length ck] 34 (0, 0))) := keepN HH0.out hb2
  have y0 : w2.cell? ⟨w1.heap.size, 0, none⟩ = some (.int .i64 n) := by rw [cell_of_blk HM2.out]; rfl
  generalize (planF ⟨n, ps, cs⟩).length = ql at *
  clear hor hown hb2 HPLAN
  have h3 := heap_new w2 (.cells #[.int .i64 4, .int .i64 6, .int .i64 8, .int .i64 12, .int .i64 24, .int .i64 n] 3)
  have HB3 : Hid (Below w2.heap.size w2 (w2.alloc (.cells #[.int .i64 4, .int .i64 6, .int .i64 8, .int .i64 12, .int .i64 24, .int .i64 n] 3))) := newB w2 _
  go_wp2_with fail
  generalize w2.alloc (.cells #[.int .i64 4, .int .i64 6, .int .i64 8, .int .i64 12, .int .i64 24, .int .i64 n] 3) = W3 at *
  obtain ⟨k6, hk6, hk61⟩ : ∃ k6 : Nat, pickF x1 6 = k6 ∧ k6 < 6 := by
    have := pickF_lt (c := x1) (n := 6) (by omega)
    exact ⟨(pickF x1 6).toNat, by omega, by omega⟩
  refine Calls.mono (pick_any x1 6 hx1 (by omega) W3) ?_
  rintro e V ⟨rfl, hV⟩
  have hV2 := hV.symm
  clear hV
  subst hV2
  rw [hk6]
  have p0 := perE_at h3 k6 hk61
  obtain ⟨o1, o2, o3⟩ := perE_ok (n := n) (k := k6) hfr h24
  obtain ⟨per, hper⟩ : ∃ per, perE n k6 = per := ⟨_, rfl⟩
  rw [hper] at p0 o1 o2 o3
  have HM3 : Hid (W3.heap[w1.heap.size]? = some (.cells #[.int .i64 n, .slice va ps.length cap, .slice ca cs.length ck] 34 (0, 0))) := keepN HM2.out HB3.out
  have HB03 : Hid (Below w1.heap.size w1 W3) := HB2.out.trans (HB3.out.mono HB2.out.size)
  clear hk6 h3 y0 hper
  have h4 := heap_new W3 (.cells #[.string moreN, .int .i64 per, .int .i64 0, .int .i64 2, .slice none 0 0] 42)
  have HB4 : Hid (Below W3.heap.size W3 (W3.alloc (.cells #[.string moreN, .int .i64 per, .int .i64 0, .int .i64 2, .slice none 0 0] 42))) := newB W3 _
  go_wp2_with fail
  rw [show ({ data := #[109, 111, 114, 101] } : ByteArray) = moreN from rfl]
  generalize W3.alloc (.cells #[.string moreN, .int .i64 per, .int .i64 0, .int .i64 2, .slice none 0 0] 42) = W4 at *
  have hlx : w1.heap.size + 1 ≤ W3.heap.size := lt_of_blk HM3.out
  have HM4 : Hid (W4.heap[w1.heap.size]? = some (.cells #[.int .i64 n, .slice va ps.length cap, .slice ca cs.length ck] 34 (0, 0))) := keepN HM3.out HB4.out
  have HB04 : Hid (Below w1.heap.size w1 W4) := HB03.out.trans (HB4.out.mono HB03.out.size)
  have hw4 : W3.heap.size < W4.heap.size := lt_of_blk h4
  generalize W3.heap.size = lx at *
  obtain ⟨pk2, hpk2, d1, d2⟩ : ∃ pk2, pickF x2 per = pk2 ∧ 0 ≤ pk2 ∧ pk2 < per := by
    have := pickF_lt (c := x2) (n := per) (by omega)
    exact ⟨_, rfl, by omega, by omega⟩
  refine Calls.mono (pick_any x2 per hx2 (by omega) W4) ?_
  rintro e V ⟨rfl, hV⟩
  have hV2 := hV.symm
  clear hV
  subst hV2
  rw [hpk2]
  clear hpk2
  simp only []
  obtain ⟨ys, hys, hPA⟩ := HMM.out.own
  have hyl : ys.length = ps.length := by rw [hys]; simp
  have HYS : Hid (ps = ys.map Prod.fst) := hys
  have z2 : W4.cell? ⟨lx, 2, none⟩ = some (.int .i64 0) := by rw [cell_of_blk h4]; rfl
  have zf := frozen_of_row W4 lx 2 _ _ h4
  have h5 := blk_set 2 (.int .i64 (1 + pk2)) h4
  have hB5 : Below w1.heap.size w1 (W4.setCell ⟨lx, 2, none⟩ (.int .i64 (1 + pk2))) := HB04.out.setCell (p := ⟨lx, 2, none⟩) (show w1.heap.size ≤ lx by omega) _
  have HM5 : Hid ((W4.setCell ⟨lx, 2, none⟩ (.int .i64 (1 + pk2))).heap[w1.heap.size]? = some (.cells #[.int .i64 n, .slice va ps.length cap, .slice ca cs.length ck] 34 (0, 0))) := (blk_far 2 _ (show w1.heap.size ≠ lx by omega)).trans HM4.out
  go_upto_region 6 with fail
  have hPA5 := hPA.below hB5
  have hCH5 := own_stays HMM.out.ownC hB5
  have hw5 : w1.heap.size + 1 < (W4.setCell ⟨lx, 2, none⟩ (.int .i64 (1 + pk2))).heap.size := by simp; omega
  generalize W4.setCell ⟨lx, 2, none⟩ (.int .i64 (1 + pk2)) = W5 at *
  have h5' : W5.heap[lx]? = some (.cells #[.string moreN, .int .i64 per, .int .i64 (1 + pk2), .int .i64 2, .slice none 0 0] 42 (0, 0)) := h5
  have q0 : W5.cell? ⟨lx, 0, none⟩ = some (.string moreN) := by rw [cell_of_blk h5']; rfl
  have q1 : W5.cell? ⟨lx, 1, none⟩ = some (.int .i64 per) := by rw [cell_of_blk h5']; rfl
  have q2 : W5.cell? ⟨lx, 2, none⟩ = some (.int .i64 (1 + pk2)) := by rw [cell_of_blk h5']; rfl
  have q3 : W5.cell? ⟨lx, 3, none⟩ = some (.int .i64 2) := by rw [cell_of_blk h5']; rfl
  have q4 : W5.cell? ⟨lx, 4, none⟩ = some (.slice none 0 0) := by rw [cell_of_blk h5']; rfl
  have m1 : W5.cell? ⟨w1.heap.size, 1, none⟩ = some (.slice va ps.length cap) := by rw [cell_of_blk HM5.out]; rfl
  have HPA5 : Hid (PA W5 (w.heap.size + 3) (.slice va ps.length cap) ys) := hPA5
  have HCH5 : Hid (W5.ownsRow (w.heap.size + 3) 92 6 (.slice ca cs.length ck) cs.length (cC cs)) := hCH5
  have HYL : Hid (ys.length = ps.length) := hyl
  have HB5 : Hid (Below w1.heap.size w1 W5) := hB5
  have hw13 : w.heap.size + 3 ≤ w1.heap.size := by
    rcases own_form hPA.own with ⟨h, _⟩ | ⟨g, cp, e, _⟩
    · exact absurd (List.eq_nil_of_length_eq_zero (by rw [← hyl]; exact h)) HMM.out.ne
    · have := hPA.own.lt g (by rw [e]; rfl)
      omega
  have hownP : W5.ownsRow (w.heap.size + 3) 42 5 (.slice va ps.length cap) ps.length (pC ys) := by have := hPA5.own; rwa [hyl] at this
  clear hPA hPA5 hCH5 h5 h5' hys hyl hB5 z2 zf h4 hw4 p0 HM4
  go_wp2_with (first
    | (at_builtin; refine wpList_append_lies _ rfl _ _ _ rfl (w.heap.size + 3) 42 j0 _ 5 64 Tryz.underlying31 hj0 hy0 hy1 hy2 rfl (by omega) (.slice va ps.length cap) ps.length (pC ys) rfl (hownP.alloc _) ⟨W5.heap.size, 0, none⟩ 1 1 [.string moreN, .int .i64 per, .int .i64 (1 + pk2), .int .i64 2, .slice none 0 0] rfl rfl (World.news_of_block (cs := #[.string moreN, .int .i64 per, .int .i64 (1 + pk2), .int .i64 2, .slice none 0 0]) (t := 42) (fr := (0, 0)) (heap_new W5 _)) (by simp [Value.oneCell']) (by omega) (by unfold maxLen; omega) (by omega) (by simp; omega) (W5.heap.size + 1) (by simp) ?_; intro g9 c9 V9 hown9 hgrow9 hat9 hlt9
       have hm9 : V9.heap[w1.heap.size]? = some (.cells #[.int .i64 n, .slice va ps.length cap, .slice ca cs.length ck] 34 (0, 0)) := (hgrow9.block w1.heap.size (by simp; omega) (own_not_blk hownP HM5.out (by decide))).trans (keepN HM5.out (newB W5 _))
       have mc9 : V9.cell? ⟨w1.heap.size, 1, none⟩ = some (.slice va ps.length cap) := (by rw [cell_of_blk hm9]; rfl)
       have mf9 := frozen_of_row V9 w1.heap.size 1 _ _ hm9)
    | fail)
  have hPA9 : PA V9 (w.heap.size + 3) (.slice (some ⟨g9, 0, none⟩) (ps.length + 1) c9) (ys ++ [(moreD per (1 + pk2), .slice none 0 0)]) := by
    have := PA.snoc (x := moreD per (1 + pk2)) (u := .slice none 0 0) (g := g9) (c := c9) (HPA5.out.below (newB W5 (.cells #[.string moreN, .int .i64 per, .int .i64 (1 + pk2), .int .i64 2, .slice none 0 0] 42))) (World.ownsRow_nil _ _ _ _) hgrow9 (by rw [HYL.out]; exact hown9)
    rwa [HYL.out] at this
  have hCH9 := own_else (own_stays HCH5.out (newB W5 (.cells #[.string moreN, .int .i64 per, .int .i64 (1 + pk2), .int .i64 2, .slice none 0 0] 42))) (own_stays hownP (newB W5 (.cells #[.string moreN, .int .i64 per, .int .i64 (1 + pk2), .int .i64 2, .slice none 0 0] 42))) (by decide) hgrow9
  have hPAX : PA (V9.setCell ⟨w1.heap.size, 1, none⟩ (.slice (some ⟨g9, 0, none⟩) (ps.length + 1) c9)) (w.heap.size + 3) (.slice (some ⟨g9, 0, none⟩) (ps.length + 1) c9) (ys ++ [(moreD per (1 + pk2), .slice none 0 0)]) := ⟨own_setElse hPA9.own (own_not_blk hPA9.own hm9 (by decide)) _ _, fun y hy => own_setElse (hPA9.reg y hy) (own_not_blk (hPA9.reg y hy) hm9 (by decide)) _ _⟩
  have hCHX := own_setElse hCH9 (own_not_blk hCH9 hm9 (by decide)) 1 (.slice (some ⟨g9, 0, none⟩) (ps.length + 1) c9)
  have hmX := blk_set 1 (.slice (some ⟨g9, 0, none⟩) (ps.length + 1) c9) hm9
  have hBX : Below w.heap.size w (V9.setCell ⟨w1.heap.size, 1, none⟩ (.slice (some ⟨g9, 0, none⟩) (ps.length + 1) c9)) := by
    have h1 : Below w.heap.size w W5 := HMM.out.bel.trans (HB5.out.mono HMM.out.bel.size)
    have h2 := h1.trans ((newB W5 (.cells #[.string moreN, .int .i64 per, .int .i64 (1 + pk2), .int .i64 2, .slice none 0 0] 42)).mono h1.size)
    exact (h2.grown hgrow9 h2.size (fun k hk => by have := (hownP.lt k hk).1; omega)).setCell (p := ⟨w1.heap.size, 1, none⟩) HMM.out.bel.size _
  generalize V9.setCell ⟨w1.heap.size, 1, none⟩ (.slice (some ⟨g9, 0, none⟩) (ps.length + 1) c9) = VX at *
  obtain ⟨hPX, hPCX⟩ := hPAX.see
  have hmap : (ys ++ [(moreD per (1 + pk2), Value.slice none 0 0)]).map Prod.fst = ps ++ [moreD per (1 + pk2)] := by rw [List.map_append, ← HYS.out]; rfl
  rw [hmap] at hPX hPCX
  have hlen2 : (ps ++ [moreD per (1 + pk2)]).length = ps.length + 1 := by simp
  obtain ⟨i0, lf0, hli, hi6⟩ := HMM.out.li
  have HCK : Hid (checkF ⟨n, ps ++ [moreD per (1 + pk2)], cs⟩ = if (n : Int) < ticksF n (ps ++ [moreD per (1 + pk2)]) then 16 else 0) := load_chk (by omega) hli hi6 HMM.out.ci HMM.out.few ⟨by omega, by omega, o3⟩ ⟨by omega, by omega⟩
  have HPO : Hid (∀ k (hk : k < (ps ++ [moreD per (1 + pk2)]).length), 1 ≤ ((ps ++ [moreD per (1 + pk2)])[k]).period ∧ ((ps ++ [moreD per (1 + pk2)])[k]).period ≤ 240 ∧ 1 ≤ ((ps ++ [moreD per (1 + pk2)])[k]).duration ∧ ((ps ++ [moreD per (1 + pk2)])[k]).duration ≤ 240 ∧ ((ps ++ [moreD per (1 + pk2)])[k]).regs.length ≤ 4) := fun k hk => by
    rcases Nat.lt_or_ge k ps.length with h | h
    · rw [List.getElem_append_left h]
      have h1 := hli.all _ (List.getElem_mem h)
      have h2 := h1.per; have h3 := h1.dur
      have := HRL.out k h
      omega
    · have e : k = ps.length := by omega
      subst e
      rw [List.getElem_append_right (Nat.le_refl _)]
      simp [moreD]
      omega
  have HPX : Hid (PartsV VX (.slice (some ⟨g9, 0, none⟩) (ps.length + 1) c9) (ps ++ [moreD per (1 + pk2)])) := hPX
  have HPCX : Hid (PartsC VX (.slice (some ⟨g9, 0, none⟩) (ps.length + 1) c9) (ps ++ [moreD per (1 + pk2)]).length) := hPCX
  have HCX : Hid (ChansV VX (.slice ca cs.length ck) cs) := chans_see hCHX
  have HMX : Hid (VX.heap[w1.heap.size]? = some (.cells #[.int .i64 n, .slice (some ⟨g9, 0, none⟩) (ps.length + 1) c9, .slice ca cs.length ck] 34 (0, 0))) := hmX
  have HBX : Hid (Below w.heap.size w VX) := hBX
  have HL2 : Hid ((ps ++ [moreD per (1 + pk2)]).length = ps.length + 1) := hlen2
  have hpl1 : ps.length + 1 ≤ 7 := by omega
  generalize ps ++ [moreD per (1 + pk2)] = qs at *
  generalize ps.length + 1 = ql2 at *
  clear hPA9 hCH9 hPAX hCHX hmX hBX hPX hPCX hmap hlen2 hli hown9 hgrow9 hat9 hlt9 hm9 mc9 mf9 q0 q1 q2 q3 q4 m1 hownP HPA5 HCH5 HM5 HYL HYS
  go_loopw [12, 13] (fun tk ii wr => ∃ k : Nat, ii = .int .i64 k ∧ k ≤ ql2 ∧ tk = .int .i64 (ticksF n (qs.take k)) ∧ 0 ≤ ticksF n (qs.take k) ∧ ticksF n (qs.take k) ≤ 60000 * k ∧ Hid (Below VX.heap.size VX wr)) (fun _ ii _ => ql2 - (intOf ii).toNat)
  case atStart => exact ⟨0, rfl, by omega, by simp [ticksF], by simp [ticksF], by simp [ticksF], Below.refl _ _⟩
  case round =>
    obtain ⟨k, rfl, hk, rfl, t1, t2, HBR⟩ := hrel
    have m0 : wr.cell? ⟨w1.heap.size, 0, none⟩ = some (.int .i64 n) := by rw [cell_of_blk (keepN HMX.out HBR.out)]; rfl
    have m1 : wr.cell? ⟨w1.heap.size, 1, none⟩ = some (.slice (some ⟨g9, 0, none⟩) ql2 c9) := by rw [cell_of_blk (keepN HMX.out HBR.out)]; rfl
    have m2 : wr.cell? ⟨w1.heap.size, 2, none⟩ = some (.slice ca cs.length ck) := by rw [cell_of_blk (keepN HMX.out HBR.out)]; rfl
    by_cases hlt : k < ql2
    · have hlt' : (k : Int) < (ql2 : Int) := by omega
      have hkq : k < qs.length := by rw [HL2.out]; exact hlt
      obtain ⟨va', cap', eva, hc⟩ := HPX.out.below HBR.out
      simp only [HL2.out, Value.slice.injEq, true_and] at eva
      obtain ⟨rfl, rfl⟩ := eva
      obtain ⟨b, off, rv, e1, d0, d1, d2, d3, d4, _⟩ := hc k hkq
      simp only [Option.some.injEq, Addr.mk.injEq, and_true] at e1
      obtain ⟨rfl, rfl⟩ := e1
      obtain ⟨p1, p2, p3, p4, _⟩ := HPO.out k hkq
      have HTS : Hid (ticksF n (qs.take (k + 1)) = ticksF n (qs.take k) + (n : Int) / qs[k].period * qs[k].duration) := by
        show _ = _
        rw [List.take_succ_eq_append_getElem hkq, ticks_snoc]
      obtain ⟨x, hx⟩ : ∃ x, qs[k] = x := ⟨_, rfl⟩
      rw [hx] at d1 d2 p1 p2 p3 p4 HTS
      clear hx hc d0 d3 d4
      obtain ⟨tk, htk⟩ : ∃ tk, ticksF n (qs.take k) = tk := ⟨_, rfl⟩
      rw [htk] at t1 t2 HTS ⊢
      clear htk
      obtain ⟨xn, xp, xd, xa, xr⟩ := x
      simp only [] at d1 d2 p1 p2 p3 p4 HTS
      rw [Nat.zero_add] at d1 d2
      have hq0 : 0 ≤ (n : Int) / xp ∧ (n : Int) / xp ≤ 240 := ⟨Int.ediv_nonneg (by omega) (by omega), Int.le_trans (Int.ediv_le_self _ (by omega)) (by omega)⟩
      obtain ⟨qq, hqq⟩ : ∃ qq, (n : Int) / xp = qq := ⟨_, rfl⟩
      have HQQ : Hid ((n : Int) / xp = qq) := hqq
      rw [hqq] at hq0 HTS
      have hpz : ¬ xp = 0 := by omega
      have hpr : 0 ≤ xd * qq ∧ xd * qq ≤ 57600 := ⟨Int.mul_nonneg (by omega) hq0.1, by
        have := Int.mul_le_mul (show xd ≤ 240 by omega) hq0.2 hq0.1 (by omega)
        omega⟩
      obtain ⟨pr, hpre⟩ : ∃ pr, xd * qq = pr := ⟨_, rfl⟩
      rw [Int.mul_comm, hpre] at HTS
      have HPR : Hid (xd * qq = pr) := hpre
      rw [hpre] at hpr
      have w1' : IntKind.i64.wrap qq = qq := wrap_small _ (by omega) (by omega)
      have w2' : IntKind.i64.wrap pr = pr := wrap_small _ (by omega) (by omega)
      have w3' : IntKind.i64.wrap (tk + pr) = tk + pr := wrap_small _ (by omega) (by omega)
      have hn0 : (0 : Int) ≤ (n : Int) := by omega
      go_wp2_with fail
      go_quiet (fail)
      go_wp2_with fail
      refine ⟨⟨k + 1, by go_num, by omega, by rw [HTS.out], by rw [HTS.out]; omega, by rw [HTS.out]; omega, below_drewN HBR.out _⟩, by simp [intOf]; omega⟩
    · have hlt' : ¬ (k : Int) < (ql2 : Int) := by omega
      have hke : qs.take k = qs := List.take_of_length_le (by rw [HL2.out]; omega)
      rw [hke] at t1 t2 ⊢
      clear hke
      have HEMP : Hid (I.acc ⟨#[]⟩ = false) := by
        have := I.accCut _ 0 HMM.out.chk (by have := (imgF_len HMM.out.chk).2; omega)
        rwa [List.take_zero] at this
      by_cases hload : (n : Int) < ticksF n qs
      · have HCE : Hid (checkF ⟨n, qs, cs⟩ = 16) := by show _ = _; rw [HCK.out, if_pos hload]
        generalize ticksF n qs = tk at *
        go_wp2_with fail
        refine Calls.mono (manCheck_any n qs cs _ _ wr (HPX.out.below HBR.out) (PartsC.below HPX.out HPCX.out HBR.out) (HCX.out.below HBR.out) HMM.out.chansC (by rw [HL2.out]; omega) (fun k hk => by have := (HPO.out k hk).2.2.2.2; omega) (by omega)) ?_
        rintro e w4 ⟨rfl, hb4⟩
        rw [HCE.out]
        have HB4 : Hid (Below VX.heap.size VX w4) := HBR.out.trans (hb4.mono HBR.out.size)
        have m0 : w4.cell? ⟨w1.heap.size, 0, none⟩ = some (.int .i64 n) := by rw [cell_of_blk (keepN HMX.out HB4.out)]; rfl
        have m1 : w4.cell? ⟨w1.heap.size, 1, none⟩ = some (.slice (some ⟨g9, 0, none⟩) ql2 c9) := by rw [cell_of_blk (keepN HMX.out HB4.out)]; rfl
        have m2 : w4.cell? ⟨w1.heap.size, 2, none⟩ = some (.slice ca cs.length ck) := by rw [cell_of_blk (keepN HMX.out HB4.out)]; rfl
        clear hb4
        go_wp2_with fail
        refine Calls.mono (planC_true n qs cs _ _ w4 (HPX.out.below HB4.out) (PartsC.below HPX.out HPCX.out HB4.out) (HCX.out.below HB4.out) HMM.out.chansC (by rw [HL2.out]; omega) (by omega) (fun k hk => by have := (HPO.out k hk).2.2.2.2; omega)) ?_
        rintro e w5 hor
        obtain ⟨pv5, rfl, hb5⟩ : ∃ pv5, e = .returned (.tuple #[pv5, .int .i64 16]) ∧ Below w4.heap.size w4 w5 := by
          rcases hor with ⟨h, h2, h3⟩ | ⟨h, h2, v, h3, _⟩
          · rw [HCE.out] at h2; exact ⟨_, h2, h3⟩
          · rw [HCE.out] at h; cases h
        have HB5 : Hid (Below VX.heap.size VX w5) := HB4.out.trans (hb5.mono HB4.out.size)
        clear m0 m1 m2 hor hb5
        have m0 : w5.cell? ⟨w1.heap.size, 0, none⟩ = some (.int .i64 n) := by rw [cell_of_blk (keepN HMX.out HB5.out)]; rfl
        have m1 : w5.cell? ⟨w1.heap.size, 1, none⟩ = some (.slice (some ⟨g9, 0, none⟩) ql2 c9) := by rw [cell_of_blk (keepN HMX.out HB5.out)]; rfl
        have m2 : w5.cell? ⟨w1.heap.size, 2, none⟩ = some (.slice ca cs.length ck) := by rw [cell_of_blk (keepN HMX.out HB5.out)]; rfl
        go_wp2_with fail
        refine Calls.mono (compile_any n qs cs _ _ w5 (HPX.out.below HB5.out) (PartsC.below HPX.out HPCX.out HB5.out) (HCX.out.below HB5.out) HMM.out.chansC (by rw [HL2.out]; omega) (by omega) (fun k hk => by have := (HPO.out k hk).2.2.2.2; omega)) ?_
        rintro e w6 hor
        obtain ⟨rfl, hb6⟩ : e = .returned (.tuple #[.string ⟨#[]⟩, .int .i64 16]) ∧ Below w5.heap.size w5 w6 := by
          rcases hor with ⟨h, h2, h3⟩ | ⟨h, h2, h3⟩
          · rw [HCE.out] at h2; exact ⟨h2, h3⟩
          · rw [HCE.out] at h; cases h
        have HB6 : Hid (Below VX.heap.size VX w6) := HB5.out.trans (hb6.mono HB5.out.size)
        clear m0 m1 m2 hor hb6
        go_wp2_with fail
        refine Calls.mono (I.boot (s := ⟨#[]⟩) (w := w6) ((HTB.out.below HBX.out).below HB6.out) (by decide)) ?_
        rintro e w7 ⟨hb7, hor⟩
        obtain rfl : e = .returned (.tuple #[.pointer none, .int .i64 18]) := by
          rcases hor with ⟨_, h⟩ | ⟨h, _⟩
          · exact h
          · rw [HEMP.out] at h; cases h
        have HB7 : Hid (Below VX.heap.size VX w7) := HB6.out.trans (hb7.mono HB6.out.size)
        have m0 : w7.cell? ⟨w1.heap.size, 0, none⟩ = some (.int .i64 n) := by rw [cell_of_blk (keepN HMX.out HB7.out)]; rfl
        clear hor hb7
        go_wp2_with fail
        go_ret
        exact ⟨rfl, HBX.out.trans (HB7.out.mono HBX.out.size)⟩
      · have HCE : Hid (checkF ⟨n, qs, cs⟩ = 0) := by show _ = _; rw [HCK.out, if_neg hload]
        generalize ticksF n qs = tk at *
        go_wp2_with fail
        refine Calls.mono (manCheck_any n qs cs _ _ wr (HPX.out.below HBR.out) (PartsC.below HPX.out HPCX.out HBR.out) (HCX.out.below HBR.out) HMM.out.chansC (by rw [HL2.out]; omega) (fun k hk => by have := (HPO.out k hk).2.2.2.2; omega) (by omega)) ?_
        rintro e w4 ⟨rfl, hb4⟩
        rw [HCE.out]
        have HB4 : Hid (Below VX.heap.size VX w4) := HBR.out.trans (hb4.mono HBR.out.size)
        have m0 : w4.cell? ⟨w1.heap.size, 0, none⟩ = some (.int .i64 n) := by rw [cell_of_blk (keepN HMX.out HB4.out)]; rfl
        have m1 : w4.cell? ⟨w1.heap.size, 1, none⟩ = some (.slice (some ⟨g9, 0, none⟩) ql2 c9) := by rw [cell_of_blk (keepN HMX.out HB4.out)]; rfl
        have m2 : w4.cell? ⟨w1.heap.size, 2, none⟩ = some (.slice ca cs.length ck) := by rw [cell_of_blk (keepN HMX.out HB4.out)]; rfl
        clear hb4
        go_wp2_with fail
        refine Calls.mono (planC_true n qs cs _ _ w4 (HPX.out.below HB4.out) (PartsC.below HPX.out HPCX.out HB4.out) (HCX.out.below HB4.out) HMM.out.chansC (by rw [HL2.out]; omega) (by omega) (fun k hk => by have := (HPO.out k hk).2.2.2.2; omega)) ?_
        rintro e w5 hor
        obtain ⟨pv5, rfl, hb5⟩ : ∃ pv5, e = .returned (.tuple #[pv5, .int .i64 0]) ∧ Below w4.heap.size w4 w5 := by
          rcases hor with ⟨h, h2, h3⟩ | ⟨h, h2, v, h3, _⟩
          · exact absurd HCE.out h
          · exact ⟨v, h3, h2⟩
        have HB5 : Hid (Below VX.heap.size VX w5) := HB4.out.trans (hb5.mono HB4.out.size)
        clear m0 m1 m2 hor hb5
        have m0 : w5.cell? ⟨w1.heap.size, 0, none⟩ = some (.int .i64 n) := by rw [cell_of_blk (keepN HMX.out HB5.out)]; rfl
        have m1 : w5.cell? ⟨w1.heap.size, 1, none⟩ = some (.slice (some ⟨g9, 0, none⟩) ql2 c9) := by rw [cell_of_blk (keepN HMX.out HB5.out)]; rfl
        have m2 : w5.cell? ⟨w1.heap.size, 2, none⟩ = some (.slice ca cs.length ck) := by rw [cell_of_blk (keepN HMX.out HB5.out)]; rfl
        go_wp2_with fail
        refine Calls.mono (compile_any n qs cs _ _ w5 (HPX.out.below HB5.out) (PartsC.below HPX.out HPCX.out HB5.out) (HCX.out.below HB5.out) HMM.out.chansC (by rw [HL2.out]; omega) (by omega) (fun k hk => by have := (HPO.out k hk).2.2.2.2; omega)) ?_
        rintro e w6 hor
        obtain ⟨rfl, hb6⟩ : e = .returned (.tuple #[.string (ba (imgF ⟨n, qs, cs⟩)), .int .i64 0]) ∧ Below w5.heap.size w5 w6 := by
          rcases hor with ⟨h, h2, h3⟩ | ⟨h, h2, h3⟩
          · exact absurd HCE.out h
          · exact ⟨h3, h2⟩
        have HB6 : Hid (Below VX.heap.size VX w6) := HB5.out.trans (hb6.mono HB5.out.size)
        clear m0 m1 m2 hor hb6
        go_wp2_with fail
        refine Calls.mono (I.boot (s := (ba (imgF ⟨n, qs, cs⟩))) (w := w6) ((HTB.out.below HBX.out).below HB6.out) (by rw [ba_len]; have := (imgF_len HCE.out).1; simp only [Int.toNat_natCast] at this; rw [HL2.out] at this; omega)) ?_
        rintro e w7 ⟨hb7, hor⟩
        obtain ⟨a, rfl⟩ : ∃ a, e = .returned (.tuple #[.pointer (some a), .int .i64 0]) := by
          rcases hor with ⟨h, _⟩ | ⟨_, a, o, h, _⟩
          · rw [I.accImg _ HCE.out] at h; cases h
          · exact ⟨a, h⟩
        have HB7 : Hid (Below VX.heap.size VX w7) := HB6.out.trans (hb7.mono HB6.out.size)
        have m0 : w7.cell? ⟨w1.heap.size, 0, none⟩ = some (.int .i64 n) := by rw [cell_of_blk (keepN HMX.out HB7.out)]; rfl
        clear hor hb7
        go_wp2_with fail
        go_ret
        exact ⟨rfl, HBX.out.trans (HB7.out.mono HBX.out.size)⟩
end Go.Proofs.YteioennfpkoagaaGreatDoor.C
