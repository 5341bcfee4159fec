import Derived.Test.YteioennfpkoagabGreatDoorH22
import Derived.Deep.DeepCutAuto
namespace Go.Proofs.YteioennfpkoagabGreatDoor.C
open Go.RowKit K
attribute [local go_sem ↓] Go.wp_at_zero Go.wp_at_succ

set_option maxRecDepth 100000 in
set_option maxHeartbeats 8000000 in
theorem ahead_law (I : KerI) (hMade : MadeF) (w : World) (htb : TB w) (u sv : Value) (L : List Int) (os : List StepD) (tx : ByteArray) (hL : IntsV w u L) (htx : tx.size ≤ 9223372036854775807) (hS : StepsV w sv os) :
    Calls Tryz.prog 3 #[u, .string tx, sv] w fun e w' => e = .returned (.bool true) ∧ Below w.heap.size w w' := by
  have HTB : Hid (TB w) := htb
  clear htb
  have HIV : Hid (IntsV w u L) := hL
  have HSV : Hid (StepsV w sv os) := hS
  obtain ⟨hol, _, sa, sc, rfl, _⟩ := hS
  obtain ⟨_, _, la, lc, rfl, _⟩ := hL
  go_enter Tryz.func3, Tryz.ntmps3
  go_wp2_with fail
  refine Calls.mono (I.boot (s := tx) (w := w) HTB.out htx) ?_
  rintro e w1 ⟨hb1, hor⟩
  have HB1 : Hid (Below w.heap.size w w1) := hb1
  clear hb1
  rcases hor with ⟨hac, rfl⟩ | ⟨hac, a, o, rfl, ho, hkv⟩
  · have HAC : Hid (I.acc tx = false) := hac
    clear hac
    go_wp2_with fail
    refine Calls.mono (hMade w1 _ L (HIV.out.below HB1.out)) ?_
    rintro e w2 ⟨n, ps, cs, pv, cv, rfl, hm⟩
    have HMM : Hid (MadeM w1 n ps cs pv cv w2) := hm
    obtain ⟨va, cap, rfl, _⟩ := hm.parts
    obtain ⟨ca, ck, rfl, _⟩ := hm.chans
    have hfr := hm.fr
    have hco := check_ok hm.chk
    have hps : ps.length ≤ 8 := hco.2.2.1
    have hcl : cs.length ≤ 8 := hco.2.2.2.1
    have HRL : Hid (∀ k (hk : k < ps.length), ps[k].regs.length ≤ 1048576) := fun k hk => by have := (hco.2.2.2.2.1 k hk).1; simp only [] at this; omega
    clear hm hco
    have b0 := newB w2 (.cells #[.int .i64 n, .slice va ps.length cap, .slice ca cs.length ck] 31)
    have h0 := heap_new w2 (.cells #[.int .i64 n, .slice va ps.length cap, .slice ca cs.length ck] 31)
    have HP0 : Hid _ := HMM.out.parts.below b0
    have HPC0 : Hid _ := PartsC.below HMM.out.parts HMM.out.partsC b0
    have HC0 : Hid _ := HMM.out.chans.below b0
    have HCOM : Hid _ := compile_any n ps cs _ _ (w2.alloc (.cells #[.int .i64 n, .slice va ps.length cap, .slice ca cs.length ck] 31)) HP0.out HPC0.out HC0.out HMM.out.chansC (by omega) (by omega) HRL.out
    have HB0 : Hid (Below w2.heap.size w2 (w2.alloc (.cells #[.int .i64 n, .slice va ps.length cap, .slice ca cs.length ck] 31))) := b0
    have HH0 : Hid ((w2.alloc (.cells #[.int .i64 n, .slice va ps.length cap, .slice ca cs.length ck] 31)).heap[w2.heap.size]? = some (.cells #[.int .i64 n, .slice va ps.length cap, .slice ca cs.length ck] 31 (0, 0))) := h0
    clear b0 h0
    go_wp2_with fail
    generalize w2.alloc (.cells #[.int .i64 n, .slice va ps.length cap, .slice ca cs.length ck] 31) = W0 at *
    refine Calls.mono HCOM.out ?_
    rintro e w3 hor3
    obtain ⟨_, hb3, rfl⟩ : checkF ⟨n, ps, cs⟩ = 0 ∧ Below W0.heap.size W0 w3 ∧ e = .returned (.tuple #[.string (ba (imgF ⟨n, ps, cs⟩)), .int .i64 0]) := by
      rcases hor3 with ⟨h, _⟩ | h
      · exact absurd HMM.out.chk h
      · exact h
    have HIMG : Hid (I.acc (ba (imgF ⟨n, ps, cs⟩)) = true) := I.accImg _ HMM.out.chk
    obtain ⟨s, hs⟩ : ∃ s, ba (imgF ⟨n, ps, cs⟩) = s := ⟨_, rfl⟩
    have HS : Hid (ba (imgF ⟨n, ps, cs⟩) = s) := hs
    rw [hs] at HIMG ⊢
    have HB3 : Hid (Below W0.heap.size W0 w3) := hb3
    have HBA : Hid (Below w2.heap.size w2 w3) := HB0.out.trans (hb3.mono HB0.out.size)
    have HM3 : Hid (w3.heap[w2.heap.size]? = some (.cells #[.int .i64 n, .slice va ps.length cap, .slice ca cs.length ck] 31 (0, 0))) := keepN HH0.out hb3
    have y0 : w3.cell? ⟨w2.heap.size, 0, none⟩ = some (.int .i64 n) := by rw [cell_of_blk HM3.out]; rfl
    have y1 : w3.cell? ⟨w2.heap.size, 1, none⟩ = some (.slice va ps.length cap) := by rw [cell_of_blk HM3.out]; rfl
    have y2 : w3.cell? ⟨w2.heap.size, 2, none⟩ = some (.slice ca cs.length ck) := by rw [cell_of_blk HM3.out]; rfl
    have HBEG : Hid _ := kbegin_any I w3 (((HTB.out.below HB1.out).below HMM.out.bel).below HBA.out) n ps cs _ _ (PartsV.below HP0.out hb3) (PartsC.below HP0.out HPC0.out hb3) (ChansV.below HC0.out hb3) HMM.out.chansC HMM.out.chk HMM.out.ne HMM.out.fst
    clear hor3 hb3 hs HCOM
    go_wp2_with fail
    refine Calls.mono HBEG.out ?_
    rintro e w4 ⟨b, qv, W1, rfl, hbg⟩
    have HBG : Hid (Begun I w3 ⟨n, ps, cs⟩ b qv W1 w4) := hbg
    have epl : (planF ⟨n, ps, cs⟩).length = n := by rw [planF_len]; simp
    obtain ⟨qa, qc, hqv, _⟩ := hbg.plan
    rw [epl] at hqv
    subst hqv
    clear hbg epl HBEG y0 y1 y2
    have HB2 : Hid (Below w.heap.size w w2) := HB1.out.trans (HMM.out.bel.mono HB1.out.size)
    have HB4 : Hid (Below w.heap.size w w4) := ((HB2.out.trans (HBA.out.mono HB2.out.size)).trans (HBG.out.pre.mono (Nat.le_trans HB2.out.size HBA.out.size))).trans (HBG.out.kat.bel.mono (Nat.le_trans (Nat.le_trans HB2.out.size HBA.out.size) HBG.out.pre.size))
    have hst : ¬ s = tx := fun e => by have := HIMG.out; rw [e, HAC.out] at this; cases this
    have hst2 : ¬ tx = s := fun e => hst e.symm
    have hst3 : (s.toList == tx.toList) = false := beq_false_of_ne fun e => hst (by rw [ByteArray.toList_eq, ByteArray.toList_eq] at e; exact ByteArray.ext (Array.toList_inj.1 e))
    go_wp2_with fail
    go_ret
    exact ⟨rfl, HB4.out⟩
  · have HO : Hid (∀ b, o b → w.heap.size ≤ b) := ho
    have HKV : Hid (∀ D, checkF D = 0 → tx = ba (imgF D) → I.KV w1 (.pointer (some a)) D bootK o) := hkv
    clear hac ho hkv
    go_wp2_with fail
    refine Calls.mono (hMade w1 _ L (HIV.out.below HB1.out)) ?_
    rintro e w2 ⟨n, ps, cs, pv, cv, rfl, hm⟩
    have HMM : Hid (MadeM w1 n ps cs pv cv w2) := hm
    obtain ⟨va, cap, rfl, _⟩ := hm.parts
    obtain ⟨ca, ck, rfl, _⟩ := hm.chans
    have hfr := hm.fr
    have hco := check_ok hm.chk
    have hps : ps.length ≤ 8 := hco.2.2.1
    have hcl : cs.length ≤ 8 := hco.2.2.2.1
    have HRL : Hid (∀ k (hk : k < ps.length), ps[k].regs.length ≤ 1048576) := fun k hk => by have := (hco.2.2.2.2.1 k hk).1; simp only [] at this; omega
    clear hm hco
    have b0 := newB w2 (.cells #[.int .i64 n, .slice va ps.length cap, .slice ca cs.length ck] 31)
    have h0 := heap_new w2 (.cells #[.int .i64 n, .slice va ps.length cap, .slice ca cs.length ck] 31)
    have HP0 : Hid _ := HMM.out.parts.below b0
    have HPC0 : Hid _ := PartsC.below HMM.out.parts HMM.out.partsC b0
    have HC0 : Hid _ := HMM.out.chans.below b0
    have HCOM : Hid _ := compile_any n ps cs _ _ (w2.alloc (.cells #[.int .i64 n, .slice va ps.length cap, .slice ca cs.length ck] 31)) HP0.out HPC0.out HC0.out HMM.out.chansC (by omega) (by omega) HRL.out
    have HB0 : Hid (Below w2.heap.size w2 (w2.alloc (.cells #[.int .i64 n, .slice va ps.length cap, .slice ca cs.length ck] 31))) := b0
    have HH0 : Hid ((w2.alloc (.cells #[.int .i64 n, .slice va ps.length cap, .slice ca cs.length ck] 31)).heap[w2.heap.size]? = some (.cells #[.int .i64 n, .slice va ps.length cap, .slice ca cs.length ck] 31 (0, 0))) := h0
    clear b0 h0
    go_wp2_with fail
    generalize w2.alloc (.cells #[.int .i64 n, .slice va ps.length cap, .slice ca cs.length ck] 31) = W0 at *
    refine Calls.mono HCOM.out ?_
    rintro e w3 hor3
    obtain ⟨_, hb3, rfl⟩ : checkF ⟨n, ps, cs⟩ = 0 ∧ Below W0.heap.size W0 w3 ∧ e = .returned (.tuple #[.string (ba (imgF ⟨n, ps, cs⟩)), .int .i64 0]) := by
      rcases hor3 with ⟨h, _⟩ | h
      · exact absurd HMM.out.chk h
      · exact h
    have HIMG : Hid (I.acc (ba (imgF ⟨n, ps, cs⟩)) = true) := I.accImg _ HMM.out.chk
    obtain ⟨s, hs⟩ : ∃ s, ba (imgF ⟨n, ps, cs⟩) = s := ⟨_, rfl⟩
    have HS : Hid (ba (imgF ⟨n, ps, cs⟩) = s) := hs
    rw [hs] at HIMG ⊢
    have HB3 : Hid (Below W0.heap.size W0 w3) := hb3
    have HBA : Hid (Below w2.heap.size w2 w3) := HB0.out.trans (hb3.mono HB0.out.size)
    have HM3 : Hid (w3.heap[w2.heap.size]? = some (.cells #[.int .i64 n, .slice va ps.length cap, .slice ca cs.length ck] 31 (0, 0))) := keepN HH0.out hb3
    have y0 : w3.cell? ⟨w2.heap.size, 0, none⟩ = some (.int .i64 n) := by rw [cell_of_blk HM3.out]; rfl
    have y1 : w3.cell? ⟨w2.heap.size, 1, none⟩ = some (.slice va ps.length cap) := by rw [cell_of_blk HM3.out]; rfl
    have y2 : w3.cell? ⟨w2.heap.size, 2, none⟩ = some (.slice ca cs.length ck) := by rw [cell_of_blk HM3.out]; rfl
    have HBEG : Hid _ := kbegin_any I w3 (((HTB.out.below HB1.out).below HMM.out.bel).below HBA.out) n ps cs _ _ (PartsV.below HP0.out hb3) (PartsC.below HP0.out HPC0.out hb3) (ChansV.below HC0.out hb3) HMM.out.chansC HMM.out.chk HMM.out.ne HMM.out.fst
    clear hor3 hb3 hs HCOM
    go_wp2_with fail
    refine Calls.mono HBEG.out ?_
    rintro e w4 ⟨b, qv, W1, rfl, hbg⟩
    have HBG : Hid (Begun I w3 ⟨n, ps, cs⟩ b qv W1 w4) := hbg
    have epl : (planF ⟨n, ps, cs⟩).length = n := by rw [planF_len]; simp
    obtain ⟨qa, qc, hqv, _⟩ := hbg.plan
    rw [epl] at hqv
    subst hqv
    clear hbg epl HBEG y0 y1 y2
    have HB2 : Hid (Below w.heap.size w w2) := HB1.out.trans (HMM.out.bel.mono HB1.out.size)
    have HB4 : Hid (Below w.heap.size w w4) := ((HB2.out.trans (HBA.out.mono HB2.out.size)).trans (HBG.out.pre.mono (Nat.le_trans HB2.out.size HBA.out.size))).trans (HBG.out.kat.bel.mono (Nat.le_trans (Nat.le_trans HB2.out.size HBA.out.size) HBG.out.pre.size))
    by_cases hst : s = tx
    · have HKX : Hid (I.KV w1 (.pointer (some a)) ⟨n, ps, cs⟩ bootK o) := HKV.out _ HMM.out.chk (by rw [HS.out, hst])
      subst hst
      obtain ⟨P, hP⟩ : ∃ P : Nat → Prop, P = fun k => k < w.heap.size ∨ (w1.heap.size ≤ k ∧ k < W1.heap.size) := ⟨_, rfl⟩
      have HPI : Hid (∀ k, P k ↔ (k < w.heap.size ∨ (w1.heap.size ≤ k ∧ k < W1.heap.size))) := fun k => by rw [hP]
      clear hP
      have HZ : Hid (w.heap.size ≤ w1.heap.size ∧ w1.heap.size ≤ w2.heap.size ∧ w2.heap.size < w3.heap.size ∧ w3.heap.size ≤ W1.heap.size) := ⟨HB1.out.size, HMM.out.bel.size, lt_of_blk HM3.out, HBG.out.pre.size⟩
      have HB14 : Hid (Below w1.heap.size w1 w4) := ((HMM.out.bel.trans (HBA.out.mono HMM.out.bel.size)).trans (HBG.out.pre.mono (Nat.le_trans HMM.out.bel.size HBA.out.size))).trans (HBG.out.kat.bel.mono (Nat.le_trans (Nat.le_trans HMM.out.bel.size HBA.out.size) HBG.out.pre.size))
      have HKQ : Hid (KQ I W1 P [] a b ⟨n, ps, cs⟩ bootK bootK w4) := by
        obtain ⟨o2, k1, k2, k3⟩ := HBG.out.kat
        have hz := HZ.out
        refine ⟨o, o2, I.below HKX.out HB14.out, k1, fun k hk hp => ?_, fun k hk hp => ?_, fun k hk hk2 => ?_, ⟨k3.os, k3.tape, k3.output, k3.size, fun k hp => ?_, fun k hp => ?_⟩, fun c hc => by cases hc⟩
        · have e1 := HO.out k hk
          have e2 := I.low HKX.out k hk
          rcases (HPI.out k).1 hp with h | h <;> omega
        · have e1 := k2 k hk
          rcases (HPI.out k).1 hp with h | h <;> omega
        · have e1 := k2 k hk2
          have e2 := I.low HKX.out k hk
          omega
        · rcases (HPI.out k).1 hp with h | h <;> omega
        · exact k3.block k (by rcases (HPI.out k).1 hp with h | h <;> omega)
      have HBB : Hid (Below w.heap.size w W1) := ((HB2.out.trans (HBA.out.mono HB2.out.size)).trans (HBG.out.pre.mono (Nat.le_trans HB2.out.size HBA.out.size)))
      have HBEL : Hid (∀ V, PB W1 P V → Below w.heap.size w V) := fun V hV => hV.bel HBB.out fun k hk => (HPI.out k).2 (.inl hk)
      have HSW : Hid (∀ V, PB W1 P V → StepsV V (.slice sa os.length sc) os) := fun V hV => HSV.out.below (HBEL.out V hV)
      have HB2W : Hid (Below w2.heap.size w2 W1) := HBA.out.trans (HBG.out.pre.mono HBA.out.size)
      have HPW : Hid (∀ V, PB W1 P V → PartsV V (.slice va ps.length cap) ps) := fun V hV => by
        obtain ⟨ys, hys, hpa⟩ := HMM.out.own
        have h1 := (hV.parts (hpa.below HB2W.out) (fun k h1 h2 => (HPI.out k).2 (.inr ⟨by omega, h2⟩))).see.1
        rwa [← hys] at h1
      have HCW : Hid (∀ V, PB W1 P V → ChansV V (.slice ca cs.length ck) cs) := fun V hV => chans_see (hV.own (own_stays HMM.out.ownC HB2W.out) (fun k h1 h2 => (HPI.out k).2 (.inr ⟨by omega, h2⟩)))
      have HMW : Hid (∀ V, PB W1 P V → V.heap[w2.heap.size]? = some (.cells #[.int .i64 n, .slice va ps.length cap, .slice ca cs.length ck] 31 (0, 0))) := fun V hV => (hV.block _ ((HPI.out _).2 (.inr ⟨HMM.out.bel.size, by have := HZ.out; omega⟩))).trans (keepN HM3.out HBG.out.pre)
      clear HKV HPI HO HKX HIV
      go_wp2_with fail
      go_loopw [14] (fun ii wr => ∃ (k : Nat) (S : KS), ii = .int .i64 k ∧ k ≤ os.length ∧ Hid (KQ I W1 P [] a b ⟨n, ps, cs⟩ S S wr) ∧ Hid (SmallK k S)) (fun ii _ => os.length - (intOf ii).toNat)
      case atStart => exact ⟨0, bootK, rfl, by omega, HKQ, SmallK.boot⟩
      case round =>
        obtain ⟨k, S, rfl, hk, HKR, HSM⟩ := hrel
        have hsS : SmallK bigK S := HSM.out.mono (by unfold bigK; omega)
        by_cases hlt : k < os.length
        · have hlt' : (k : Int) < (os.length : Int) := by omega
          have hSw := HSW.out wr HKR.out.pb
          have hor := hSw.2.1 os[k] (List.getElem_mem _)
          obtain ⟨x, hx⟩ : ∃ x, os[k] = x := ⟨_, rfl⟩
          obtain ⟨sb, so, rfl⟩ : ∃ sb so, sa = some ⟨sb, so, none⟩ := by
            obtain ⟨_, _, sa', sc', esa, hc⟩ := hSw
            simp only [Value.slice.injEq, true_and] at esa
            obtain ⟨rfl, rfl⟩ := esa
            obtain ⟨sb, so, h, _⟩ := hc k hlt
            exact ⟨sb, so, h⟩
          rw [hx] at hor
          obtain ⟨xk, xp, xn, xb, xt⟩ := x
          have HSK : Hid (∀ V, PB W1 P V → (V.cell? ⟨w2.heap.size, 0, none⟩ = some (.int .i64 n) ∧ V.cell? ⟨w2.heap.size, 1, none⟩ = some (.slice va ps.length cap) ∧ V.cell? ⟨w2.heap.size, 2, none⟩ = some (.slice ca cs.length ck) ∧ V.cell? ⟨sb, so + k * 5, none⟩ = some (.int .i64 xk) ∧ V.cell? ⟨sb, so + k * 5 + 1, none⟩ = some (.int .i64 xp) ∧ V.cell? ⟨sb, so + k * 5 + 2, none⟩ = some (.int .i64 xn) ∧ V.cell? ⟨sb, so + k * 5 + 3, none⟩ = some (.int .i64 xb) ∧ V.cell? ⟨sb, so + k * 5 + 4, none⟩ = some (.string xt)) ∧ PB W1 P V) := fun V hV => by
            have hmw := HMW.out V hV
            obtain ⟨_, _, sa', sc', esa, hc⟩ := HSW.out V hV
            simp only [Value.slice.injEq, true_and] at esa
            obtain ⟨rfl, rfl⟩ := esa
            obtain ⟨sb', so', e, c0, c1, c2, c3, c4⟩ := hc k hlt
            cases e
            rw [hx] at c0 c1 c2 c3 c4
            exact ⟨⟨by rw [cell_of_blk hmw]; rfl, by rw [cell_of_blk hmw]; rfl, by rw [cell_of_blk hmw]; rfl, c0, c1, c2, c3, c4⟩, hV⟩
          clear hx hSw
          have HOR : Hid (StepR ⟨xk, xp, xn, xb, xt⟩) := hor
          clear hor
          have HDX : Hid (∀ L V, KQ I W1 P L a b ⟨n, ps, cs⟩ S S V → Calls Tryz.prog 8 #[.pointer (some a), .agg #[.int .i64 n, .slice va ps.length cap, .slice ca cs.length ck], .agg #[.int .i64 xk, .int .i64 xp, .int .i64 xn, .int .i64 xb, .string xt]] V fun e w' => e = .returned (ansV (doF ⟨n, ps, cs⟩ S ⟨xk, xp, xn, xb, xt⟩).1) ∧ KQ I W1 P L a b ⟨n, ps, cs⟩ (doF ⟨n, ps, cs⟩ S ⟨xk, xp, xn, xb, xt⟩).2 S w' ∧ sameL L V w') := fun L V hV => KQ.do_ hV HPW.out HCW.out HMM.out.chk HMM.out.ne hsS ⟨xk, xp, xn, xb, xt⟩ HOR.out
          have HDY : Hid (∀ L T V, KQ I W1 P L a b ⟨n, ps, cs⟩ T S V → Calls Tryz.prog 8 #[.pointer (some b), .agg #[.int .i64 n, .slice va ps.length cap, .slice ca cs.length ck], .agg #[.int .i64 xk, .int .i64 xp, .int .i64 xn, .int .i64 xb, .string xt]] V fun e w' => e = .returned (ansV (doF ⟨n, ps, cs⟩ S ⟨xk, xp, xn, xb, xt⟩).1) ∧ KQ I W1 P L a b ⟨n, ps, cs⟩ T (doF ⟨n, ps, cs⟩ S ⟨xk, xp, xn, xb, xt⟩).2 w' ∧ sameL L V w') := fun L T V hV => Calls.mono (KQ.do_ hV.swap HPW.out HCW.out HMM.out.chk HMM.out.ne hsS ⟨xk, xp, xn, xb, xt⟩ HOR.out) fun _ _ ⟨e1, e2, e3⟩ => ⟨e1, e2.swap, e3⟩
          have hsS' : SmallK (k + 1) (doF ⟨n, ps, cs⟩ S ⟨xk, xp, xn, xb, xt⟩).2 := HSM.out.step ⟨n, ps, cs⟩ ⟨xk, xp, xn, xb, xt⟩
          obtain ⟨dS, hdS⟩ : ∃ d, doF ⟨n, ps, cs⟩ S ⟨xk, xp, xn, xb, xt⟩ = d := ⟨_, rfl⟩
          rw [hdS] at HDX HDY hsS'
          clear hdS
          obtain ⟨⟨an, at_, ay, ae⟩, S'⟩ := dS
          unfold ansV at HDX HDY
          simp only [] at HDX HDY hsS'
          have HS2 : Hid (SmallK (k + 1) S') := hsS'
          clear hsS'
          go_wp2_with fail
          have HA0 : Hid (KQ I W1 P [] a b ⟨n, ps, cs⟩ S S wr.drew) := HKR.out.below (below_drewN (Below.refl _ _) 1)
          have HS0 : Hid ((wr.drew.cell? ⟨w2.heap.size, 0, none⟩ = some (.int .i64 n) ∧ wr.drew.cell? ⟨w2.heap.size, 1, none⟩ = some (.slice va ps.length cap) ∧ wr.drew.cell? ⟨w2.heap.size, 2, none⟩ = some (.slice ca cs.length ck) ∧ wr.drew.cell? ⟨sb, so + k * 5, none⟩ = some (.int .i64 xk) ∧ wr.drew.cell? ⟨sb, so + k * 5 + 1, none⟩ = some (.int .i64 xp) ∧ wr.drew.cell? ⟨sb, so + k * 5 + 2, none⟩ = some (.int .i64 xn) ∧ wr.drew.cell? ⟨sb, so + k * 5 + 3, none⟩ = some (.int .i64 xb) ∧ wr.drew.cell? ⟨sb, so + k * 5 + 4, none⟩ = some (.string xt)) ∧ PB W1 P wr.drew) := HSK.out _ HA0.out.pb
          have HSA : Hid (∀ V o, (V.cell? ⟨w2.heap.size, 0, none⟩ = some (.int .i64 n) ∧ V.cell? ⟨w2.heap.size, 1, none⟩ = some (.slice va ps.length cap) ∧ V.cell? ⟨w2.heap.size, 2, none⟩ = some (.slice ca cs.length ck) ∧ V.cell? ⟨sb, so + k * 5, none⟩ = some (.int .i64 xk) ∧ V.cell? ⟨sb, so + k * 5 + 1, none⟩ = some (.int .i64 xp) ∧ V.cell? ⟨sb, so + k * 5 + 2, none⟩ = some (.int .i64 xn) ∧ V.cell? ⟨sb, so + k * 5 + 3, none⟩ = some (.int .i64 xb) ∧ V.cell? ⟨sb, so + k * 5 + 4, none⟩ = some (.string xt)) ∧ PB W1 P V → ((V.alloc o).cell? ⟨w2.heap.size, 0, none⟩ = some (.int .i64 n) ∧ (V.alloc o).cell? ⟨w2.heap.size, 1, none⟩ = some (.slice va ps.length cap) ∧ (V.alloc o).cell? ⟨w2.heap.size, 2, none⟩ = some (.slice ca cs.length ck) ∧ (V.alloc o).cell? ⟨sb, so + k * 5, none⟩ = some (.int .i64 xk) ∧ (V.alloc o).cell? ⟨sb, so + k * 5 + 1, none⟩ = some (.int .i64 xp) ∧ (V.alloc o).cell? ⟨sb, so + k * 5 + 2, none⟩ = some (.int .i64 xn) ∧ (V.alloc o).cell? ⟨sb, so + k * 5 + 3, none⟩ = some (.int .i64 xb) ∧ (V.alloc o).cell? ⟨sb, so + k * 5 + 4, none⟩ = some (.string xt)) ∧ PB W1 P (V.alloc o)) := fun V o h => HSK.out _ (h.2.below (newB V o))
          have HAL : Hid (∀ o, KQ I W1 P (wr.heap.size :: ([] : List Nat)) a b ⟨n, ps, cs⟩ S S (wr.alloc o).drew) := fun o => (HKR.out.alloc o).below (below_drewN (Below.refl _ _) 1)
          have HSD : Hid (∀ o, (((wr.alloc o).drew).cell? ⟨w2.heap.size, 0, none⟩ = some (.int .i64 n) ∧ ((wr.alloc o).drew).cell? ⟨w2.heap.size, 1, none⟩ = some (.slice va ps.length cap) ∧ ((wr.alloc o).drew).cell? ⟨w2.heap.size, 2, none⟩ = some (.slice ca cs.length ck) ∧ ((wr.alloc o).drew).cell? ⟨sb, so + k * 5, none⟩ = some (.int .i64 xk) ∧ ((wr.alloc o).drew).cell? ⟨sb, so + k * 5 + 1, none⟩ = some (.int .i64 xp) ∧ ((wr.alloc o).drew).cell? ⟨sb, so + k * 5 + 2, none⟩ = some (.int .i64 xn) ∧ ((wr.alloc o).drew).cell? ⟨sb, so + k * 5 + 3, none⟩ = some (.int .i64 xb) ∧ ((wr.alloc o).drew).cell? ⟨sb, so + k * 5 + 4, none⟩ = some (.string xt)) ∧ PB W1 P ((wr.alloc o).drew)) := fun o => HSK.out _ (HAL.out o).pb
          have HSC : Hid (∀ V (i : Nat) u, (V.cell? ⟨w2.heap.size, 0, none⟩ = some (.int .i64 n) ∧ V.cell? ⟨w2.heap.size, 1, none⟩ = some (.slice va ps.length cap) ∧ V.cell? ⟨w2.heap.size, 2, none⟩ = some (.slice ca cs.length ck) ∧ V.cell? ⟨sb, so + k * 5, none⟩ = some (.int .i64 xk) ∧ V.cell? ⟨sb, so + k * 5 + 1, none⟩ = some (.int .i64 xp) ∧ V.cell? ⟨sb, so + k * 5 + 2, none⟩ = some (.int .i64 xn) ∧ V.cell? ⟨sb, so + k * 5 + 3, none⟩ = some (.int .i64 xb) ∧ V.cell? ⟨sb, so + k * 5 + 4, none⟩ = some (.string xt)) ∧ PB W1 P V → ((V.setCell ⟨wr.heap.size, i, none⟩ u).cell? ⟨w2.heap.size, 0, none⟩ = some (.int .i64 n) ∧ (V.setCell ⟨wr.heap.size, i, none⟩ u).cell? ⟨w2.heap.size, 1, none⟩ = some (.slice va ps.length cap) ∧ (V.setCell ⟨wr.heap.size, i, none⟩ u).cell? ⟨w2.heap.size, 2, none⟩ = some (.slice ca cs.length ck) ∧ (V.setCell ⟨wr.heap.size, i, none⟩ u).cell? ⟨sb, so + k * 5, none⟩ = some (.int .i64 xk) ∧ (V.setCell ⟨wr.heap.size, i, none⟩ u).cell? ⟨sb, so + k * 5 + 1, none⟩ = some (.int .i64 xp) ∧ (V.setCell ⟨wr.heap.size, i, none⟩ u).cell? ⟨sb, so + k * 5 + 2, none⟩ = some (.int .i64 xn) ∧ (V.setCell ⟨wr.heap.size, i, none⟩ u).cell? ⟨sb, so + k * 5 + 3, none⟩ = some (.int .i64 xb) ∧ (V.setCell ⟨wr.heap.size, i, none⟩ u).cell? ⟨sb, so + k * 5 + 4, none⟩ = some (.string xt)) ∧ PB W1 P (V.setCell ⟨wr.heap.size, i, none⟩ u)) := fun V i u h => HSK.out _ (h.2.set (fun e => by have := h.2.lt _ e; have := HKR.out.pb.size; omega) _ _)
          go_cut [15] (fun x wc => ∃ (ja : Nat), x = .pointer (some ⟨ja, 0, none⟩) ∧ Hid (wc.heap[ja]? = some (.cells #[.int .i64 an, .string at_, .bool ay, .int .i64 ae] 38 (0, 0))) ∧ Hid (KQ I W1 P (ja :: ([] : List Nat)) a b ⟨n, ps, cs⟩ S' S wc))
          case first =>
            go_region_held3 (fun V => (V.cell? ⟨w2.heap.size, 0, none⟩ = some (.int .i64 n) ∧ V.cell? ⟨w2.heap.size, 1, none⟩ = some (.slice va ps.length cap) ∧ V.cell? ⟨w2.heap.size, 2, none⟩ = some (.slice ca cs.length ck) ∧ V.cell? ⟨sb, so + k * 5, none⟩ = some (.int .i64 xk) ∧ V.cell? ⟨sb, so + k * 5 + 1, none⟩ = some (.int .i64 xp) ∧ V.cell? ⟨sb, so + k * 5 + 2, none⟩ = some (.int .i64 xn) ∧ V.cell? ⟨sb, so + k * 5 + 3, none⟩ = some (.int .i64 xb) ∧ V.cell? ⟨sb, so + k * 5 + 4, none⟩ = some (.string xt)) ∧ PB W1 P V) (first | with_reducible assumption | with_reducible exact HS0.out | with_reducible exact HSC.out _ _ _ (HSC.out _ _ _ (HSC.out _ _ _ (HSC.out _ _ _ (by assumption)))) | with_reducible exact HSA.out _ _ (by assumption) | with_reducible exact HSD.out _) ((first
              | (go_at_call 8; refine (HDX.out _ _ (HAL.out _)).mono ?_; rintro e w5 ⟨rfl, hk5, hs5⟩
                 have S1 := HSK.out w5 hk5.pb
                 have bx : w5.heap[wr.heap.size]? = some (.cells #[.int .i64 0, .string ⟨#[]⟩, .bool false, .int .i64 0] 38 (0, 0)) := hs5.at (by simp) (heap_new wr _)
                 have x0 : w5.cell? ⟨wr.heap.size, 0, none⟩ = some (.int .i64 0) := by rw [cell_of_blk bx]; rfl
                 have x1 : w5.cell? ⟨wr.heap.size, 1, none⟩ = some (.string ⟨#[]⟩) := by rw [cell_of_blk bx]; rfl
                 have x2 : w5.cell? ⟨wr.heap.size, 2, none⟩ = some (.bool false) := by rw [cell_of_blk bx]; rfl
                 have x3 : w5.cell? ⟨wr.heap.size, 3, none⟩ = some (.int .i64 0) := by rw [cell_of_blk bx]; rfl
                 have f0 := frozen_of_row w5 wr.heap.size 0 _ _ bx
                 have f1 := frozen_of_row w5 wr.heap.size 1 _ _ bx
                 have f2 := frozen_of_row w5 wr.heap.size 2 _ _ bx
                 have f3 := frozen_of_row w5 wr.heap.size 3 _ _ bx
                 have BX : Hid (w5.heap[wr.heap.size]? = some (.cells #[.int .i64 0, .string ⟨#[]⟩, .bool false, .int .i64 0] 38 (0, 0))) := bx
                 have HK5 : Hid (KQ I W1 P (wr.heap.size :: ([] : List Nat)) a b ⟨n, ps, cs⟩ S' S w5) := hk5
                 have HS5 : Hid (sameL (wr.heap.size :: ([] : List Nat)) (wr.alloc (.cells #[.int .i64 0, .string ⟨#[]⟩, .bool false, .int .i64 0] 38)) w5) := hs5
                 clear bx hk5 hs5)
              | (go_at_call 8; refine (HDX.out _ _ HA0.out).mono ?_; rintro e w5 ⟨rfl, hk5, hs5⟩
                 have S1 := HSK.out w5 hk5.pb
                 have HK6 : Hid (KQ I W1 P ([] : List Nat) a b ⟨n, ps, cs⟩ S' S w5) := hk5
                 have HS6 : Hid (sameL ([] : List Nat) wr w5) := hs5
                 clear hk5 hs5)))
            all_goals (go_wp2_with fail)
            all_goals go_meet
            all_goals first
              | (have b4 := blk_set 3 (.int .i64 ae) (blk_set 2 (.bool ay) (blk_set 1 (.string at_) (blk_set 0 (.int .i64 an) BX.out)))
                 have k4 := KQ.set (c := wr.heap.size) (KQ.set (c := wr.heap.size) (KQ.set (c := wr.heap.size) (KQ.set (c := wr.heap.size) HK5.out (by simp) 0 (.int .i64 an)) (by simp) 1 (.string at_)) (by simp) 2 (.bool ay)) (by simp) 3 (.int .i64 ae)
                 exact ⟨wr.heap.size, rfl, b4, k4⟩)
              | exact ⟨_, rfl, heap_new _ _, KQ.alloc HK6.out _⟩
          case rest =>
            obtain ⟨ja0, rfl, HJA, HKC⟩ := hcut
            clear HS0 HSA HAL HSD HSC HA0
            have HC0 : Hid (KQ I W1 P [ja0] a b ⟨n, ps, cs⟩ S' S wc.drew) := HKC.out.below (below_drewN (Below.refl _ _) 1)
            go_wp2_with fail
            have HS0 : Hid ((wc.drew.cell? ⟨w2.heap.size, 0, none⟩ = some (.int .i64 n) ∧ wc.drew.cell? ⟨w2.heap.size, 1, none⟩ = some (.slice va ps.length cap) ∧ wc.drew.cell? ⟨w2.heap.size, 2, none⟩ = some (.slice ca cs.length ck) ∧ wc.drew.cell? ⟨sb, so + k * 5, none⟩ = some (.int .i64 xk) ∧ wc.drew.cell? ⟨sb, so + k * 5 + 1, none⟩ = some (.int .i64 xp) ∧ wc.drew.cell? ⟨sb, so + k * 5 + 2, none⟩ = some (.int .i64 xn) ∧ wc.drew.cell? ⟨sb, so + k * 5 + 3, none⟩ = some (.int .i64 xb) ∧ wc.drew.cell? ⟨sb, so + k * 5 + 4, none⟩ = some (.string xt)) ∧ PB W1 P wc.drew) := HSK.out _ HC0.out.pb
            have HSA : Hid (∀ V o, (V.cell? ⟨w2.heap.size, 0, none⟩ = some (.int .i64 n) ∧ V.cell? ⟨w2.heap.size, 1, none⟩ = some (.slice va ps.length cap) ∧ V.cell? ⟨w2.heap.size, 2, none⟩ = some (.slice ca cs.length ck) ∧ V.cell? ⟨sb, so + k * 5, none⟩ = some (.int .i64 xk) ∧ V.cell? ⟨sb, so + k * 5 + 1, none⟩ = some (.int .i64 xp) ∧ V.cell? ⟨sb, so + k * 5 + 2, none⟩ = some (.int .i64 xn) ∧ V.cell? ⟨sb, so + k * 5 + 3, none⟩ = some (.int .i64 xb) ∧ V.cell? ⟨sb, so + k * 5 + 4, none⟩ = some (.string xt)) ∧ PB W1 P V → ((V.alloc o).cell? ⟨w2.heap.size, 0, none⟩ = some (.int .i64 n) ∧ (V.alloc o).cell? ⟨w2.heap.size, 1, none⟩ = some (.slice va ps.length cap) ∧ (V.alloc o).cell? ⟨w2.heap.size, 2, none⟩ = some (.slice ca cs.length ck) ∧ (V.alloc o).cell? ⟨sb, so + k * 5, none⟩ = some (.int .i64 xk) ∧ (V.alloc o).cell? ⟨sb, so + k * 5 + 1, none⟩ = some (.int .i64 xp) ∧ (V.alloc o).cell? ⟨sb, so + k * 5 + 2, none⟩ = some (.int .i64 xn) ∧ (V.alloc o).cell? ⟨sb, so + k * 5 + 3, none⟩ = some (.int .i64 xb) ∧ (V.alloc o).cell? ⟨sb, so + k * 5 + 4, none⟩ = some (.string xt)) ∧ PB W1 P (V.alloc o)) := fun V o h => HSK.out _ (h.2.below (newB V o))
            have HAL : Hid (∀ o, KQ I W1 P (wc.heap.size :: [ja0]) a b ⟨n, ps, cs⟩ S' S (wc.alloc o).drew) := fun o => (HKC.out.alloc o).below (below_drewN (Below.refl _ _) 1)
            have HSD : Hid (∀ o, (((wc.alloc o).drew).cell? ⟨w2.heap.size, 0, none⟩ = some (.int .i64 n) ∧ ((wc.alloc o).drew).cell? ⟨w2.heap.size, 1, none⟩ = some (.slice va ps.length cap) ∧ ((wc.alloc o).drew).cell? ⟨w2.heap.size, 2, none⟩ = some (.slice ca cs.length ck) ∧ ((wc.alloc o).drew).cell? ⟨sb, so + k * 5, none⟩ = some (.int .i64 xk) ∧ ((wc.alloc o).drew).cell? ⟨sb, so + k * 5 + 1, none⟩ = some (.int .i64 xp) ∧ ((wc.alloc o).drew).cell? ⟨sb, so + k * 5 + 2, none⟩ = some (.int .i64 xn) ∧ ((wc.alloc o).drew).cell? ⟨sb, so + k * 5 + 3, none⟩ = some (.int .i64 xb) ∧ ((wc.alloc o).drew).cell? ⟨sb, so + k * 5 + 4, none⟩ = some (.string xt)) ∧ PB W1 P ((wc.alloc o).drew)) := fun o => HSK.out _ (HAL.out o).pb
            have HSC : Hid (∀ V (i : Nat) u, (V.cell? ⟨w2.heap.size, 0, none⟩ = some (.int .i64 n) ∧ V.cell? ⟨w2.heap.size, 1, none⟩ = some (.slice va ps.length cap) ∧ V.cell? ⟨w2.heap.size, 2, none⟩ = some (.slice ca cs.length ck) ∧ V.cell? ⟨sb, so + k * 5, none⟩ = some (.int .i64 xk) ∧ V.cell? ⟨sb, so + k * 5 + 1, none⟩ = some (.int .i64 xp) ∧ V.cell? ⟨sb, so + k * 5 + 2, none⟩ = some (.int .i64 xn) ∧ V.cell? ⟨sb, so + k * 5 + 3, none⟩ = some (.int .i64 xb) ∧ V.cell? ⟨sb, so + k * 5 + 4, none⟩ = some (.string xt)) ∧ PB W1 P V → ((V.setCell ⟨wc.heap.size, i, none⟩ u).cell? ⟨w2.heap.size, 0, none⟩ = some (.int .i64 n) ∧ (V.setCell ⟨wc.heap.size, i, none⟩ u).cell? ⟨w2.heap.size, 1, none⟩ = some (.slice va ps.length cap) ∧ (V.setCell ⟨wc.heap.size, i, none⟩ u).cell? ⟨w2.heap.size, 2, none⟩ = some (.slice ca cs.length ck) ∧ (V.setCell ⟨wc.heap.size, i, none⟩ u).cell? ⟨sb, so + k * 5, none⟩ = some (.int .i64 xk) ∧ (V.setCell ⟨wc.heap.size, i, none⟩ u).cell? ⟨sb, so + k * 5 + 1, none⟩ = some (.int .i64 xp) ∧ (V.setCell ⟨wc.heap.size, i, none⟩ u).cell? ⟨sb, so + k * 5 + 2, none⟩ = some (.int .i64 xn) ∧ (V.setCell ⟨wc.heap.size, i, none⟩ u).cell? ⟨sb, so + k * 5 + 3, none⟩ = some (.int .i64 xb) ∧ (V.setCell ⟨wc.heap.size, i, none⟩ u).cell? ⟨sb, so + k * 5 + 4, none⟩ = some (.string xt)) ∧ PB W1 P (V.setCell ⟨wc.heap.size, i, none⟩ u)) := fun V i u h => HSK.out _ (h.2.set (fun e => by have := h.2.lt _ e; have := HKC.out.pb.size; omega) _ _)
            go_cut [16] (fun x wc => ∃ (ja : Nat), x = .pointer (some ⟨ja, 0, none⟩) ∧ Hid (wc.heap[ja]? = some (.cells #[.int .i64 an, .string at_, .bool ay, .int .i64 ae] 38 (0, 0))) ∧ Hid (KQ I W1 P (ja :: [ja0]) a b ⟨n, ps, cs⟩ S' S' wc) ∧ Hid (wc.heap[ja0]? = some (.cells #[.int .i64 an, .string at_, .bool ay, .int .i64 ae] 38 (0, 0))))
            case first =>
              go_region_held3 (fun V => (V.cell? ⟨w2.heap.size, 0, none⟩ = some (.int .i64 n) ∧ V.cell? ⟨w2.heap.size, 1, none⟩ = some (.slice va ps.length cap) ∧ V.cell? ⟨w2.heap.size, 2, none⟩ = some (.slice ca cs.length ck) ∧ V.cell? ⟨sb, so + k * 5, none⟩ = some (.int .i64 xk) ∧ V.cell? ⟨sb, so + k * 5 + 1, none⟩ = some (.int .i64 xp) ∧ V.cell? ⟨sb, so + k * 5 + 2, none⟩ = some (.int .i64 xn) ∧ V.cell? ⟨sb, so + k * 5 + 3, none⟩ = some (.int .i64 xb) ∧ V.cell? ⟨sb, so + k * 5 + 4, none⟩ = some (.string xt)) ∧ PB W1 P V) (first | with_reducible assumption | with_reducible exact HS0.out | with_reducible exact HSC.out _ _ _ (HSC.out _ _ _ (HSC.out _ _ _ (HSC.out _ _ _ (by assumption)))) | with_reducible exact HSA.out _ _ (by assumption) | with_reducible exact HSD.out _) ((first
                | (go_at_call 8; refine (HDY.out _ _ _ (HAL.out _)).mono ?_; rintro e w5 ⟨rfl, hk5, hs5⟩
                   have S1 := HSK.out w5 hk5.pb
                   have bx : w5.heap[wc.heap.size]? = some (.cells #[.int .i64 0, .string ⟨#[]⟩, .bool false, .int .i64 0] 38 (0, 0)) := hs5.at (by simp) (heap_new wc _)
                   have x0 : w5.cell? ⟨wc.heap.size, 0, none⟩ = some (.int .i64 0) := by rw [cell_of_blk bx]; rfl
                   have x1 : w5.cell? ⟨wc.heap.size, 1, none⟩ = some (.string ⟨#[]⟩) := by rw [cell_of_blk bx]; rfl
                   have x2 : w5.cell? ⟨wc.heap.size, 2, none⟩ = some (.bool false) := by rw [cell_of_blk bx]; rfl
                   have x3 : w5.cell? ⟨wc.heap.size, 3, none⟩ = some (.int .i64 0) := by rw [cell_of_blk bx]; rfl
                   have f0 := frozen_of_row w5 wc.heap.size 0 _ _ bx
                   have f1 := frozen_of_row w5 wc.heap.size 1 _ _ bx
                   have f2 := frozen_of_row w5 wc.heap.size 2 _ _ bx
                   have f3 := frozen_of_row w5 wc.heap.size 3 _ _ bx
                   have BX : Hid (w5.heap[wc.heap.size]? = some (.cells #[.int .i64 0, .string ⟨#[]⟩, .bool false, .int .i64 0] 38 (0, 0))) := bx
                   have HK5 : Hid (KQ I W1 P (wc.heap.size :: [ja0]) a b ⟨n, ps, cs⟩ S' S' w5) := hk5
                   have HS5 : Hid (sameL (wc.heap.size :: [ja0]) (wc.alloc (.cells #[.int .i64 0, .string ⟨#[]⟩, .bool false, .int .i64 0] 38)) w5) := hs5
                   clear bx hk5 hs5)
                | (go_at_call 8; refine (HDY.out _ _ _ HC0.out).mono ?_; rintro e w5 ⟨rfl, hk5, hs5⟩
                   have S1 := HSK.out w5 hk5.pb
                   have HK6 : Hid (KQ I W1 P [ja0] a b ⟨n, ps, cs⟩ S' S' w5) := hk5
                   have HS6 : Hid (sameL [ja0] wc w5) := hs5
                   clear hk5 hs5)))
              all_goals (go_wp2_with fail)
              all_goals go_meet
              all_goals first
                | (have b4 := blk_set 3 (.int .i64 ae) (blk_set 2 (.bool ay) (blk_set 1 (.string at_) (blk_set 0 (.int .i64 an) BX.out)))
                   have k4 := KQ.set (c := wc.heap.size) (KQ.set (c := wc.heap.size) (KQ.set (c := wc.heap.size) (KQ.set (c := wc.heap.size) HK5.out (by simp) 0 (.int .i64 an)) (by simp) 1 (.string at_)) (by simp) 2 (.bool ay)) (by simp) 3 (.int .i64 ae)
                   have j5 : w5.heap[ja0]? = some (.cells #[.int .i64 an, .string at_, .bool ay, .int .i64 ae] 38 (0, 0)) := HS5.out.at (b := ja0) (by simp) (keepN HJA.out (newB wc _))
                   have hne : ja0 ≠ wc.heap.size := Nat.ne_of_lt (lt_of_blk HJA.out)
                   have j6 := (blk_far 3 (.int .i64 ae) hne).trans ((blk_far 2 (.bool ay) hne).trans ((blk_far 1 (.string at_) hne).trans ((blk_far 0 (.int .i64 an) hne).trans j5)))
                   exact ⟨wc.heap.size, rfl, b4, k4, j6⟩)
                | exact ⟨_, rfl, heap_new _ _, KQ.alloc HK6.out _, keepN (HS6.out.at (b := ja0) (by simp) HJA.out) (newB _ _)⟩
            case rest =>
              obtain ⟨jb, rfl, HJB, HKB, HJC⟩ := hcut
              clear HS0 HSA HAL HSD HSC HC0
              have v0 : wc.cell? ⟨jb, 0, none⟩ = some (.int .i64 an) := by rw [cell_of_blk HJB.out]; rfl
              have v1 : wc.cell? ⟨jb, 1, none⟩ = some (.string at_) := by rw [cell_of_blk HJB.out]; rfl
              have v2 : wc.cell? ⟨jb, 2, none⟩ = some (.bool ay) := by rw [cell_of_blk HJB.out]; rfl
              have v3 : wc.cell? ⟨jb, 3, none⟩ = some (.int .i64 ae) := by rw [cell_of_blk HJB.out]; rfl
              have v4 : wc.cell? ⟨ja0, 0, none⟩ = some (.int .i64 an) := by rw [cell_of_blk HJC.out]; rfl
              have v5 : wc.cell? ⟨ja0, 1, none⟩ = some (.string at_) := by rw [cell_of_blk HJC.out]; rfl
              have v6 : wc.cell? ⟨ja0, 2, none⟩ = some (.bool ay) := by rw [cell_of_blk HJC.out]; rfl
              have v7 : wc.cell? ⟨ja0, 3, none⟩ = some (.int .i64 ae) := by rw [cell_of_blk HJC.out]; rfl
              go_wp2_with fail
              exact ⟨⟨k + 1, S', by go_num, by omega, HKB.out.less (by simp), HS2⟩, by simp [intOf]; omega⟩
        · have hlt' : ¬ (k : Int) < (os.length : Int) := by omega
          have HS3 : Hid (SmallK k S) := HSM
          clear hsS
          go_wp2_with fail
          generalize wr = WR at *
          go_loopw [17] (fun ii wr => ∃ (j : Nat) (T : KS), ii = .int .i64 j ∧ j ≤ n ∧ Hid (KQ I W1 P [] a b ⟨n, ps, cs⟩ T T wr) ∧ Hid (SmallK (k + j) T)) (fun ii _ => n - (intOf ii).toNat)
          case atStart => exact ⟨0, S, rfl, by omega, HKR, HS3⟩
          case round =>
            obtain ⟨j, T, rfl, hj, HKT, HST⟩ := hrel
            have hsT : SmallK bigK T := HST.out.mono (by unfold bigK; omega)
            by_cases hjl : j < n
            · have hjl' : (j : Int) < (n : Int) := by omega
              go_wp2_with fail
              refine Calls.mono (KQ.running HKT.out hsT) ?_
              rintro e w5 ⟨rfl, hk5, _⟩
              have HK5 : Hid (KQ I W1 P [] a b ⟨n, ps, cs⟩ T T w5) := hk5
              clear hk5
              go_wp2_with fail
              refine Calls.mono (KQ.running HK5.out.swap hsT) ?_
              rintro e w6 ⟨rfl, hk6, _⟩
              have HK6 : Hid (KQ I W1 P [] a b ⟨n, ps, cs⟩ T T w6) := hk6.swap
              clear hk6
              go_wp2_with fail
              refine Calls.mono (KQ.tick HK6.out hsT) ?_
              rintro e w7 ⟨rfl, hk7, _⟩
              have HK7 : Hid (KQ I W1 P [] a b ⟨n, ps, cs⟩ (tickK T) T w7) := hk7
              clear hk7
              go_wp2_with fail
              refine Calls.mono (KQ.tick HK7.out.swap hsT) ?_
              rintro e w8 ⟨rfl, hk8, _⟩
              have HK8 : Hid (KQ I W1 P [] a b ⟨n, ps, cs⟩ (tickK T) (tickK T) w8) := hk8.swap
              clear hk8
              go_wp2_with fail
              exact ⟨⟨j + 1, tickK T, by go_num, by omega, HK8, HST.out.tick⟩, by simp [intOf]; omega⟩
            · have hjl' : ¬ (j : Int) < (n : Int) := by omega
              go_wp2_with fail
              generalize wr = WT at *
              go_loopw [20] (fun ii wr => ∃ (i : Nat), ii = .int .i64 i ∧ i ≤ ps.length ∧ Hid (KQ I W1 P [] a b ⟨n, ps, cs⟩ T T wr)) (fun ii _ => ps.length - (intOf ii).toNat)
              case atStart => exact ⟨0, rfl, by omega, HKT⟩
              case round =>
                obtain ⟨i, rfl, hi, HKI⟩ := hrel
                have y1 : wr.cell? ⟨w2.heap.size, 1, none⟩ = some (.slice va ps.length cap) := by rw [cell_of_blk (HMW.out wr HKI.out.pb)]; rfl
                by_cases hil : i < ps.length
                · have hil' : (i : Int) < (ps.length : Int) := by omega
                  obtain ⟨st, hste⟩ : ∃ st, T.sts i = st := ⟨_, rfl⟩
                  have HSE : Hid (T.sts i = st) := hste
                  clear hste
                  obtain ⟨sp, sf, sr⟩ := st
                  go_wp2_with fail
                  refine Calls.mono (KQ.state HKI.out hsT (p := (i : Int)) (by unfold inR; omega)) ?_
                  rw [state_in (D := ⟨n, ps, cs⟩) hil, HSE.out]
                  unfold stV
                  simp only []
                  rintro e w5 ⟨rfl, hk5, _⟩
                  have hk6 := hk5.alloc (.cells #[.bool sp, .int .i64 sf, .int .i64 sr] 44)
                  have h6 := heap_new w5 (.cells #[.bool sp, .int .i64 sf, .int .i64 sr] 44)
                  have HK6 : Hid (KQ I W1 P [w5.heap.size] a b ⟨n, ps, cs⟩ T T (w5.alloc (.cells #[.bool sp, .int .i64 sf, .int .i64 sr] 44))) := hk6
                  have HH6 : Hid ((w5.alloc (.cells #[.bool sp, .int .i64 sf, .int .i64 sr] 44)).heap[w5.heap.size]? = some (.cells #[.bool sp, .int .i64 sf, .int .i64 sr] 44 (0, 0))) := h6
                  clear hk5 hk6 h6 y1
                  go_wp2_with fail
                  generalize w5.alloc (.cells #[.bool sp, .int .i64 sf, .int .i64 sr] 44) = W6 at *
                  generalize w5.heap.size = ls at *
                  refine Calls.mono (KQ.state HK6.out.swap hsT (p := (i : Int)) (by unfold inR; omega)) ?_
                  rw [state_in (D := ⟨n, ps, cs⟩) hil, HSE.out]
                  unfold stV
                  simp only []
                  rintro e w7 ⟨rfl, hk7, hs7⟩
                  have hl7 := hs7.at (b := ls) (by simp) HH6.out
                  have hlw : ls < w7.heap.size := lt_of_blk hl7
                  have HK7 : Hid (KQ I W1 P [ls] a b ⟨n, ps, cs⟩ T T w7) := hk7.swap
                  have z1 : w7.cell? ⟨ls, 0, none⟩ = some (.bool sp) := by rw [cell_of_blk hl7]; rfl
                  have z2 : w7.cell? ⟨ls, 1, none⟩ = some (.int .i64 sf) := by rw [cell_of_blk hl7]; rfl
                  have z3 : w7.cell? ⟨ls, 2, none⟩ = some (.int .i64 sr) := by rw [cell_of_blk hl7]; rfl
                  clear hk7 hs7 hl7
                  go_wp2_with fail
                  exact ⟨⟨i + 1, by go_num, by omega, (HK7.out.alloc _).less (by simp)⟩, by simp [intOf]; omega⟩
                · have hil' : ¬ (i : Int) < (ps.length : Int) := by omega
                  go_wp2_with fail
                  go_ret
                  exact ⟨rfl, HBEL.out _ HKI.out.pb⟩
    · have hst2 : ¬ tx = s := fun e => hst e.symm
      have hst3 : (s.toList == tx.toList) = false := beq_false_of_ne fun e => hst (by rw [ByteArray.toList_eq, ByteArray.toList_eq] at e; exact ByteArray.ext (Array.toList_inj.1 e))
      go_wp2_with fail
      go_ret
      exact ⟨rfl, HB4.out⟩
end Go.Proofs.YteioennfpkoagabGreatDoor.C
