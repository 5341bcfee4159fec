import Derived.Test.YteioennfpkoagaaGreatDoorB06
import Derived.Test.YteioennfpkoagaaGreatDoorB07
import Derived.Test.YteioennfpkoagaaGreatDoorB02
namespace Go.Proofs.YteioennfpkoagaaGreatDoor.C
open Go.RowKit

/- nothing turned but what one owns, and what is new -/
structure Frm (o : Nat → Prop) (w w' : World) : Prop where
  os : w'.os = w.os
  tape : w'.tape = w.tape
  output : w'.output = w.output
  size : w.heap.size ≤ w'.heap.size
  block : ∀ k, k < w.heap.size → ¬ o k → w'.heap[k]? = w.heap[k]?
def newO (o o' : Nat → Prop) (w : World) : Prop := ∀ b, o' b → o b ∨ w.heap.size ≤ b
theorem newO.refl (o : Nat → Prop) (w : World) : newO o o w := fun _ h => .inl h
theorem newO.trans {o o' o2 : Nat → Prop} {w w' : World} (h : newO o o' w) (h' : newO o' o2 w') (hs : w.heap.size ≤ w'.heap.size) : newO o o2 w := fun b hb => by
  rcases h' b hb with h1 | h1
  · exact h b h1
  · exact .inr (by omega)
theorem Frm.refl (o : Nat → Prop) (w : World) : Frm o w w := ⟨rfl, rfl, rfl, Nat.le_refl _, fun _ _ _ => rfl⟩
theorem Frm.all {w w' : World} (o : Nat → Prop) (h : Below w.heap.size w w') : Frm o w w' := ⟨h.os, h.tape, h.output, h.size, fun k hk _ => h.block k hk⟩
theorem Frm.trans {o o' : Nat → Prop} {a b c : World} (h : Frm o a b) (h' : Frm o' b c) (hn : newO o o' a) : Frm o a c :=
  ⟨h'.os.trans h.os, h'.tape.trans h.tape, h'.output.trans h.output, Nat.le_trans h.size h'.size, fun k hk hok => by
    have hs := h.size
    rw [h'.block k (by omega) (fun e => by rcases hn k e with h1 | h1; exact hok h1; omega), h.block k hk hok]⟩
theorem Frm.below {o : Nat → Prop} {w w' : World} {B : Nat} (h : Frm o w w') (hB : B ≤ w.heap.size) (ho : ∀ k, o k → B ≤ k) : Below B w w' :=
  ⟨h.os, h.tape, h.output, h.size, fun k hk => h.block k (by omega) (fun e => by have := ho k e; omega)⟩
theorem Frm.mono {o o' : Nat → Prop} {w w' : World} (h : Frm o w w') (hm : ∀ k, o k → o' k) : Frm o' w w' :=
  ⟨h.os, h.tape, h.output, h.size, fun k hk hn => h.block k hk (fun e => hn (hm k e))⟩
theorem Frm.drew {o : Nat → Prop} {w w' : World} (h : Frm o w w') : Frm o w w'.drew := ⟨h.os, h.tape, h.output, h.size, h.block⟩
theorem Frm.set {o : Nat → Prop} {w w' : World} (h : Frm o w w') {b : Nat} (hb : o b ∨ w.heap.size ≤ b) (i : Nat) (v : Value) : Frm o w (w'.setCell ⟨b, i, none⟩ v) := by
  refine ⟨h.os, h.tape, h.output, ?_, fun k hk hn => ?_⟩
  · have := h.size
    simpa using this
  · rw [Below.heap_setCell _ _ _ _ (show k ≠ b from fun e => by subst e; rcases hb with h1 | h1; exact hn h1; omega)]
    exact h.block k hk hn
theorem Frm.alloc {o : Nat → Prop} {w w' : World} (h : Frm o w w') (x : Obj) : Frm o w (w'.alloc x) := by
  have hs := h.size
  refine ⟨h.os, h.tape, h.output, by simp; omega, fun k hk hn => ?_⟩
  rw [Below.heap_alloc _ _ _ (by omega)]
  exact h.block k hk hn

/- counts stay small -/
structure SmallK (n : Nat) (S : KS) : Prop where
  time : S.time ≤ n
  flt : ∀ p, 0 ≤ (S.sts p).faults ∧ (S.sts p).faults ≤ n
  res : ∀ p, 0 ≤ (S.sts p).restarts ∧ (S.sts p).restarts ≤ n
theorem SmallK.boot : SmallK 0 bootK := ⟨Nat.le_refl _, fun _ => ⟨by simp [bootK], by simp [bootK]⟩, fun _ => ⟨by simp [bootK], by simp [bootK]⟩⟩
theorem SmallK.mono {n m : Nat} {S : KS} (h : SmallK n S) (hm : n ≤ m) : SmallK m S :=
  ⟨Nat.le_trans h.time hm, fun p => ⟨(h.flt p).1, by have := (h.flt p).2; omega⟩, fun p => ⟨(h.res p).1, by have := (h.res p).2; omega⟩⟩
theorem SmallK.fail {n : Nat} {S : KS} (h : SmallK n S) (D : ManD) (p : Nat) : SmallK (n + 1) (failF D S p) := by
  refine ⟨by have := h.time; show S.time ≤ n + 1; omega, fun q => ?_, fun q => ?_⟩
  · have := h.flt q
    show 0 ≤ (if q = p then failSt (actF D p) (S.sts q) else S.sts q).faults ∧ _
    unfold failF
    simp only []
    split
    · simp only [failSt]; omega
    · omega
  · have := h.res q
    unfold failF
    simp only []
    split
    · simp only [failSt]; split <;> omega
    · omega
theorem SmallK.tick {n : Nat} {S : KS} (h : SmallK n S) : SmallK (n + 1) (tickK S) :=
  ⟨by have := h.time; show S.time + 1 ≤ n + 1; omega, (h.mono (Nat.le_succ n)).flt, (h.mono (Nat.le_succ n)).res⟩
theorem SmallK.setMem {n : Nat} {S : KS} (h : SmallK n S) (p : Nat) (a b : Int) : SmallK n (setMem S p a b) := ⟨h.time, h.flt, h.res⟩
theorem SmallK.setCh {n : Nat} {S : KS} (h : SmallK n S) (c : Nat) (l : List MsgD) : SmallK n (setCh S c l) := ⟨h.time, h.flt, h.res⟩
theorem SmallK.read {n : Nat} {S : KS} (h : SmallK n S) (D : ManD) (p a : Int) : SmallK (n + 1) (readF D S p a).2.2 := by
  unfold readF
  split
  · exact h.mono (Nat.le_succ _)
  · split
    · exact h.fail _ _
    · exact h.mono (Nat.le_succ _)
theorem SmallK.write {n : Nat} {S : KS} (h : SmallK n S) (D : ManD) (p a b : Int) : SmallK (n + 1) (writeF D S p a b).2 := by
  unfold writeF
  split
  · exact h.mono (Nat.le_succ _)
  · split
    · exact h.fail _ _
    · exact (h.setMem _ _ _).mono (Nat.le_succ _)
theorem SmallK.raise {n : Nat} {S : KS} (h : SmallK n S) (D : ManD) (p : Int) : SmallK (n + 1) (raiseF D S p).2 := by
  unfold raiseF
  split
  · exact h.mono (Nat.le_succ _)
  · exact h.fail _ _
theorem SmallK.send {n : Nat} {S : KS} (h : SmallK n S) (D : ManD) (p c : Int) (s : ByteArray) : SmallK n (sendF D S p c s).2 := by
  unfold sendF
  split
  · exact h
  split
  · exact h
  split
  · exact h
  split
  · exact h
  split
  · split
    · exact h
    · exact h.setCh _ _
  · exact h.setCh _ _
theorem SmallK.recv {n : Nat} {S : KS} (h : SmallK n S) (D : ManD) (p c : Int) : SmallK n (recvF D S p c).2 := by
  unfold recvF
  split
  · exact h
  split
  · exact h
  split
  · exact h
  split
  · exact h
  split
  · exact h.setCh _ _
  · exact h
theorem SmallK.step {n : Nat} {S : KS} (h : SmallK n S) (D : ManD) (o : StepD) : SmallK (n + 1) (doF D S o).2 := by
  unfold doF
  split
  · exact h.tick
  split
  · exact h.read _ _ _
  split
  · exact h.write _ _ _ _
  split
  · exact (h.send _ _ _ _).mono (Nat.le_succ _)
  split
  · exact (h.recv _ _ _).mono (Nat.le_succ _)
  split
  · exact h.raise _ _
  · exact h.mono (Nat.le_succ _)
end Go.Proofs.YteioennfpkoagaaGreatDoor.C
namespace Go.Proofs.YteioennfpkoagaaGreatDoor.C
open Go.RowKit
attribute [local go_sem ↓] Go.wp_at_zero Go.wp_at_succ

set_option maxRecDepth 100000 in
set_option maxHeartbeats 8000000 in
theorem check_any (f : Int) (ps : List PartD) (cs : List ChanD) (pv cv : Value) (w : World) (hp : PartsV w pv ps) (hc : ChansV w cv cs) (hl : ps.length ≤ 4611686018427387903) :
    Calls Tryz.prog 95 #[.agg #[.int .i64 f, pv, cv]] w fun e w' => e = .returned (.int .i64 (checkF ⟨f, ps, cs⟩)) ∧ Below w.heap.size w w' := by
  have HP : Hid (PartsV w pv ps) := hp
  have HCV : Hid (ChansV w cv cs) := hc
  obtain ⟨pa, pcap, rfl, hpc⟩ := hp
  obtain ⟨ca, ccap, rfl, hcc⟩ := hc
  have HPC : Hid _ := hpc
  clear hpc hcc
  have HE : Hid (checkF ⟨f, ps, cs⟩ = checkF ⟨f, ps, cs⟩) := rfl
  by_cases hf1 : f < 1
  · have q1 : decide (f < 1) = true := by simp [hf1]
    go_enter Tryz.func95, Tryz.ntmps95
    go_wp2_with fail
    go_ret
    exact ⟨by unfold checkF; rw [if_pos (.inl hf1)]; rfl, (Below.refl _ _).alloc (Nat.le_refl _) _⟩
  have q1 : decide (f < 1) = false := by simp; omega
  by_cases hf2 : 240 < f
  · have q2 : decide (240 < f) = true := by simp [hf2]
    go_enter Tryz.func95, Tryz.ntmps95
    go_wp2_with fail
    go_ret
    exact ⟨by unfold checkF; rw [if_pos (.inr hf2)]; rfl, (Below.refl _ _).alloc (Nat.le_refl _) _⟩
  have q2 : decide (240 < f) = false := by simp; omega
  have hb0 : Below w.heap.size w (w.alloc (.cells #[.int .i64 f, .slice pa ps.length pcap, .slice ca cs.length ccap] 34)) := (Below.refl _ _).alloc (Nat.le_refl _) _
  have hm0 := heap_new w (.cells #[.int .i64 f, .slice pa ps.length pcap, .slice ca cs.length ccap] 34)
  by_cases hmany : ps.length < 1 ∨ 8 < ps.length ∨ 8 < cs.length
  · have hM := many_true (M := ⟨f, ps, cs⟩) hmany
    have HM : Hid (checkF ⟨f, ps, cs⟩ = 6) := by
      show _ = _
      unfold checkF; rw [if_neg (by simp only []; omega), if_pos hM]
    clear hM
    have hcase : decide ((ps.length : Int) < 1) = true ∨ (decide ((ps.length : Int) < 1) = false ∧ decide ((8 : Int) < (ps.length : Int)) = true) ∨ (decide ((ps.length : Int) < 1) = false ∧ decide ((8 : Int) < (ps.length : Int)) = false ∧ decide ((8 : Int) < (cs.length : Int)) = true) := by
      simp only [decide_eq_true_eq, decide_eq_false_iff_not]; omega
    clear hmany
    rcases hcase with r1 | ⟨r1, r2⟩ | ⟨r1, r2, r3⟩
    all_goals (
      go_enter Tryz.func95, Tryz.ntmps95
      go_wp2_with fail
      generalize w.alloc (.cells #[.int .i64 f, .slice pa ps.length pcap, .slice ca cs.length ccap] 34) = W0 at *
      go_loopw [3, 5] (fun m i wr => ∃ k : Nat, i = .int .i64 k ∧ m = .bool true ∧ k ≤ ps.length ∧ wr = W0) (fun _ i _ => ps.length - (intOf i).toNat)
      case atStart => exact ⟨0, rfl, rfl, by omega, rfl⟩
      case round =>
        obtain ⟨k, rfl, rfl, hk, rfl⟩ := hrel
        have x1 : wr.cell? ⟨w.heap.size, 1, none⟩ = some (.slice pa ps.length pcap) := by rw [cell_of_blk hm0]; rfl
        by_cases hlt : k < ps.length
        · have hlt' : (k : Int) < (ps.length : Int) := by omega
          go_wp2_with fail
          go_roundw
          case rel => exact ⟨k + 1, by go_num, rfl, by omega, trivial⟩
          case measure => simp [intOf]; omega
        · have hlt' : ¬ (k : Int) < (ps.length : Int) := by omega
          go_wp2_with fail
          go_ret
          exact ⟨by rw [HM.out]; rfl, hb0⟩)
  have r1 : decide ((ps.length : Int) < 1) = false := by simp; omega
  have r2 : decide ((8 : Int) < (ps.length : Int)) = false := by simp; omega
  have r3 : decide ((8 : Int) < (cs.length : Int)) = false := by simp; omega
  have HMW : Hid _ := many_wide (M := ⟨f, ps, cs⟩) hmany
  have hps8 : ps.length ≤ 8 := by omega
  have hcs8 : cs.length ≤ 8 := by omega
  clear hmany
  go_enter Tryz.func95, Tryz.ntmps95
  go_wp2_with fail
  generalize w.alloc (.cells #[.int .i64 f, .slice pa ps.length pcap, .slice ca cs.length ccap] 34) = W0 at *
  go_loopw [3, 5] (fun m i wr => ∃ (k : Nat) (c : Bool), i = .int .i64 k ∧ m = .bool c ∧ k ≤ ps.length ∧ Hid (c = wideB (ps.take k)) ∧ wr = W0) (fun _ i _ => ps.length - (intOf i).toNat)
  case atStart => exact ⟨0, false, rfl, rfl, by omega, rfl, rfl⟩
  case round =>
    obtain ⟨k, c, rfl, rfl, hk, HW, rfl⟩ := hrel
    have x1 : wr.cell? ⟨w.heap.size, 1, none⟩ = some (.slice pa ps.length pcap) := by rw [cell_of_blk hm0]; rfl
    by_cases hlt : k < ps.length
    · have hlt' : (k : Int) < (ps.length : Int) := by omega
      have hk0 : (0 : Int) ≤ (k : Int) := by omega
      obtain ⟨b, off, rv, rfl, c0, c1, c2, c3, c4, hrv⟩ := HPC.out k hlt
      obtain ⟨ra, rcap, rfl, hrx⟩ := hrv
      clear hrx c0 c1 c2 c3
      have hbl := World.block_lt_of_cell? w _ c4
      have d4 := (hb0.cell (by exact hbl)).trans c4
      clear c4
      generalize hrg : ps[k].regs.length = rl at *
      have HRG : Hid _ := hrg
      clear hrg
      cases c
      · go_wp2_with fail
        go_roundw
        case rel => exact ⟨k + 1, decide ((4 : Int) < (rl : Int)), by go_num, rfl, by omega, by show _ = _; rw [wideB_step hlt, ← HW.out, HRG.out]; rfl, trivial⟩
        case measure => simp [intOf]; omega
      · go_wp2_with fail
        go_roundw
        case rel => exact ⟨k + 1, true, by go_num, rfl, by omega, by show _ = _; rw [wideB_step hlt, ← HW.out]; rfl, trivial⟩
        case measure => simp [intOf]; omega
    · have hlt' : ¬ (k : Int) < (ps.length : Int) := by omega
      have hke : k = ps.length := by omega
      have HW2 : Hid (c = wideB ps) := by have := HW.out; rw [hke, List.take_length] at this; exact this
      clear hke hk hlt HW
      cases c
      · go_wp2_with fail
        have HNM : Hid (manyB ⟨f, ps, cs⟩ = false) := by show _ = _; rw [HMW.out]; exact HW2.out.symm
        have HWL : Hid _ := wide_len HW2.out.symm
        clear HMW HW2 x1 HE
        generalize wr = W1 at *
        go_loopw [4, 6, 7] (fun pg tk i wr => ∃ (k : Nat) (P T : Int), i = .int .i64 k ∧ pg = .int .i64 P ∧ tk = .int .i64 T ∧ k ≤ ps.length ∧ Hid (P = pagesF (ps.take k)) ∧ Hid (T = ticksF f (ps.take k)) ∧ 0 ≤ P ∧ P ≤ 256 * k ∧ 0 ≤ T ∧ T ≤ 240 * k ∧ Hid (firstNZ (partAt ⟨f, ps, cs⟩) k = 0) ∧ wr.heap[w.heap.size]? = some (.cells #[.int .i64 f, .slice pa ps.length pcap, .slice ca cs.length ccap] 34 (0, 0)) ∧ Below w.heap.size w wr) (fun _ _ i _ => ps.length - (intOf i).toNat)
        case atStart => exact ⟨0, 0, 0, rfl, rfl, rfl, by omega, by simp [Hid, pagesF], by simp [Hid, ticksF], by omega, by omega, by omega, by omega, rfl, hm0, hb0⟩
        case round =>
          obtain ⟨k, P, T, rfl, rfl, rfl, hk, HPG, HTK, hP0, hP1, hT0, hT1, HZ, hm1, b1⟩ := hrel
          have x0 : wr.cell? ⟨w.heap.size, 0, none⟩ = some (.int .i64 f) := by rw [cell_of_blk hm1]; rfl
          have x1 : wr.cell? ⟨w.heap.size, 1, none⟩ = some (.slice pa ps.length pcap) := by rw [cell_of_blk hm1]; rfl
          have x2 : wr.cell? ⟨w.heap.size, 2, none⟩ = some (.slice ca cs.length ccap) := by rw [cell_of_blk hm1]; rfl
          by_cases hlt : k < ps.length
          · have hlt' : (k : Int) < (ps.length : Int) := by omega
            have hk0 : (0 : Int) ≤ (k : Int) := by omega
            go_wp2_with fail
            refine (partWrong_any f ps k _ _ wr (PartsV.below HP.out b1) ⟨by omega, by omega⟩ hlt hl (by have := HWL.out k hlt; omega)).mono ?_
            rintro e V ⟨rfl, hbv⟩
            have hat : partAt ⟨f, ps, cs⟩ k = partErr f (ps.take k) ps[k] := dif_pos hlt
            have HAT : Hid _ := hat
            clear hat
            have b2 := b1.trans (hbv.mono b1.size)
            have hm2 := (hbv.block _ (lt_of_blk hm1)).trans hm1
            clear x0 x1 x2 hm1
            by_cases hz : partErr f (ps.take k) ps[k] = 0
            · have hok := partErr_ok hz
              rw [hz]
              obtain ⟨o1, o2, o3, o4, _, _, o7⟩ := hok
              have HOK : Hid _ := o7
              clear o7
              obtain ⟨b, off, rv, rfl, c0, c1, c2, c3, c4, hrv⟩ := HPC.out k hlt
              have HRV : Hid _ := hrv
              obtain ⟨ra, rcap, rfl, hrx⟩ := hrv
              clear hrx
              have hbl := World.block_lt_of_cell? w _ c4
              have d0 := (b2.cell (by exact hbl)).trans c0
              have d1 := (b2.cell (by exact hbl)).trans c1
              have d2 := (b2.cell (by exact hbl)).trans c2
              have d3 := (b2.cell (by exact hbl)).trans c3
              have d4 := (b2.cell (by exact hbl)).trans c4
              clear c0 c1 c2 c3 c4
              have x0 : V.cell? ⟨w.heap.size, 0, none⟩ = some (.int .i64 f) := by rw [cell_of_blk hm2]; rfl
              have x1 : V.cell? ⟨w.heap.size, 1, none⟩ = some (.slice (some ⟨b, off, none⟩) ps.length pcap) := by rw [cell_of_blk hm2]; rfl
              have hrl := HWL.out k hlt
              have HZ2 : Hid (firstNZ (partAt ⟨f, ps, cs⟩) (k + 1) = 0) := firstNZ_step HZ.out (HAT.out.trans hz)
              have HPS : Hid _ := pagesF_step hlt
              have HTS : Hid _ := ticksF_step f hlt
              clear hz HAT HZ
              generalize ps[k] = x at *
              obtain ⟨t1, t2, t3, t4⟩ := ticks_one o1 o2 o3 o4 (by omega)
              have w1 : IntKind.i64.wrap (f / x.period) = f / x.period := wrap_small _ (by omega) (by omega)
              have w2 : IntKind.i64.wrap (f / x.period * x.duration) = f / x.period * x.duration := wrap_small _ (by omega) (by omega)
              have w3 : IntKind.i64.wrap (T + f / x.period * x.duration) = T + f / x.period * x.duration := wrap_small _ (by omega) (by omega)
              have hpz : ¬ x.period = 0 := by omega
              have hf0 : 0 ≤ f := by omega
              go_wp2_with fail
              have hx3 := heap_new V (.cells #[.string x.name, .int .i64 x.period, .int .i64 x.duration, .int .i64 x.action, .slice ra x.regs.length rcap] 42)
              have hm3 := heap_old V (.cells #[.string x.name, .int .i64 x.period, .int .i64 x.duration, .int .i64 x.action, .slice ra x.regs.length rcap] 42) hm2
              have b3 := b2.alloc (o := (.cells #[.string x.name, .int .i64 x.period, .int .i64 x.duration, .int .i64 x.action, .slice ra x.regs.length rcap] 42)) b2.size
              have hxb : w.heap.size ≠ V.heap.size := by have := lt_of_blk hm2; omega
              clear d0 d1 d2 d3 d4 x0 x1 hm2 b2 hbv b1
              generalize V.alloc (.cells #[.string x.name, .int .i64 x.period, .int .i64 x.duration, .int .i64 x.action, .slice ra x.regs.length rcap] 42) = V2 at *
              generalize V.heap.size = xb at *
              have y0 : V2.cell? ⟨w.heap.size, 0, none⟩ = some (.int .i64 f) := by rw [cell_of_blk hm3]; rfl
              have y1 : V2.cell? ⟨xb, 1, none⟩ = some (.int .i64 x.period) := by rw [cell_of_blk hx3]; rfl
              have y2 : V2.cell? ⟨xb, 2, none⟩ = some (.int .i64 x.duration) := by rw [cell_of_blk hx3]; rfl
              go_quiet (fail)
              go_wp2_with fail
              have hm4 : (V2.drewN nq).heap[w.heap.size]? = _ := hm3
              have hx4 : (V2.drewN nq).heap[xb]? = _ := hx3
              have b4 := below_drewN b3 nq
              clear y0 y1 y2 w1 w2 w3 hm3 hx3 b3
              generalize V2.drewN nq = V3 at *
              have y4 : V3.cell? ⟨xb, 4, none⟩ = some (.slice ra x.regs.length rcap) := by rw [cell_of_blk hx4]; rfl
              obtain ⟨ra', rcap', hrr, hrc⟩ := RegsV.below HRV.out b4
              cases hrr
              have HRC : Hid _ := hrc
              clear hrc
              go_loopw [4, 10] (fun pg i wx => ∃ (q : Nat) (G : Int), i = .int .i64 q ∧ pg = .int .i64 G ∧ q ≤ x.regs.length ∧ Hid (G = P + regPages (x.regs.take q)) ∧ 0 ≤ G ∧ G ≤ P + 64 * q ∧ wx = V3) (fun _ i _ => x.regs.length - (intOf i).toNat)
              case atStart => exact ⟨0, P, rfl, rfl, by omega, by simp [Hid, regPages], by omega, by omega, rfl⟩
              case round =>
                obtain ⟨q, G, rfl, rfl, hq, HG, hG0, hG1, rfl⟩ := hrel
                by_cases hql : q < x.regs.length
                · have hql' : (q : Int) < (x.regs.length : Int) := by omega
                  have hq0 : (0 : Int) ≤ (q : Int) := by omega
                  obtain ⟨rb, ro, rfl, _, z1, _⟩ := HRC.out q hql
                  have hbd := HOK.out.1 x.regs[q] (List.getElem_mem _)
                  unfold regB at hbd
                  simp only [decide_eq_true_eq] at hbd
                  have HST : Hid _ := regPages_step hql
                  generalize x.regs[q].pages = pq at *
                  have wg : IntKind.i64.wrap (G + pq) = G + pq := wrap_small _ (by omega) (by omega)
                  go_wp2_with fail
                  go_roundw
                  case rel => exact ⟨q + 1, G + pq, by go_num, rfl, by omega, by show _ = _; rw [HST.out, HG.out]; omega, by omega, by omega, trivial⟩
                  case measure => simp [intOf]; omega
                · have hql' : ¬ (q : Int) < (x.regs.length : Int) := by omega
                  have hqe : q = x.regs.length := by omega
                  have HG2 : Hid (G = P + regPages x.regs) := by have := HG.out; rw [hqe, List.take_length] at this; exact this
                  clear HG
                  go_wp2_with fail
                  go_roundw
                  case rel => exact ⟨k + 1, G, T + f / x.period * x.duration, by go_num, rfl, rfl, by omega, by show _ = _; rw [HPS.out, HG2.out, HPG.out], by show _ = _; rw [HTS.out, HTK.out], by omega, by omega, by omega, by omega, HZ2, hm4, b4⟩
                  case measure => simp [intOf]; omega
            · have hzz : (partErr f (ps.take k) ps[k] != 0) = true := by simp [hz]
              have HR : Hid (checkF ⟨f, ps, cs⟩ = partErr f (ps.take k) ps[k]) := by
                have h1 : firstNZ (partAt ⟨f, ps, cs⟩) ps.length = partErr f (ps.take k) ps[k] := by
                  rw [← HAT.out]; exact firstNZ_stop HZ.out (by rw [HAT.out]; exact hz) hlt
                show _ = _
                unfold checkF
                rw [if_neg (by simp only []; omega), if_neg (by rw [HNM.out]; simp), if_pos (by rw [h1]; exact hz), h1]
              go_wp2_with fail
              go_ret
              exact ⟨by rw [HR.out]; rfl, b2⟩
          · have hlt' : ¬ (k : Int) < (ps.length : Int) := by omega
            have hke : k = ps.length := by omega
            have HP2 : Hid (P = pagesF ps) := by have := HPG.out; rw [hke, List.take_length] at this; exact this
            have HT2 : Hid (T = ticksF f ps) := by have := HTK.out; rw [hke, List.take_length] at this; exact this
            have HZ2 : Hid (firstNZ (partAt ⟨f, ps, cs⟩) ps.length = 0) := by have := HZ.out; rw [hke] at this; exact this
            clear HPG HTK HZ
            go_wp2_with fail
            clear x0 x1 x2
            generalize wr = W2 at *
            go_loopw [11] (fun i wr => ∃ (q : Nat), i = .int .i64 q ∧ q ≤ cs.length ∧ Hid (firstNZ (chanAt ⟨f, ps, cs⟩) q = 0) ∧ wr.heap[w.heap.size]? = some (.cells #[.int .i64 f, .slice pa ps.length pcap, .slice ca cs.length ccap] 34 (0, 0)) ∧ Below w.heap.size w wr) (fun i _ => cs.length - (intOf i).toNat)
            case atStart => exact ⟨0, rfl, by omega, rfl, hm1, b1⟩
            case round =>
              obtain ⟨q, rfl, hq, HC0, hm2, b2⟩ := hrel
              have x0 : wr.cell? ⟨w.heap.size, 0, none⟩ = some (.int .i64 f) := by rw [cell_of_blk hm2]; rfl
              have x1 : wr.cell? ⟨w.heap.size, 1, none⟩ = some (.slice pa ps.length pcap) := by rw [cell_of_blk hm2]; rfl
              have x2 : wr.cell? ⟨w.heap.size, 2, none⟩ = some (.slice ca cs.length ccap) := by rw [cell_of_blk hm2]; rfl
              by_cases hql : q < cs.length
              · have hql' : (q : Int) < (cs.length : Int) := by omega
                have hq0 : (0 : Int) ≤ (q : Int) := by omega
                go_wp2_with fail
                refine (chanWrong_any f cs q ps.length pcap pa _ wr (ChansV.below HCV.out b2) hql (by omega)).mono ?_
                rintro e V ⟨rfl, hbv⟩
                have HAT : Hid (chanAt ⟨f, ps, cs⟩ q = chanErr f ps.length (cs.take q) cs[q]) := dif_pos hql
                have b3 := b2.trans (hbv.mono b2.size)
                have hm3 := (hbv.block _ (lt_of_blk hm2)).trans hm2
                clear x0 x1 x2 hm2 hbv
                by_cases hz : chanErr f ps.length (cs.take q) cs[q] = 0
                · rw [hz]
                  have HC1 : Hid (firstNZ (chanAt ⟨f, ps, cs⟩) (q + 1) = 0) := firstNZ_step HC0.out (HAT.out.trans hz)
                  clear hz
                  go_wp2_with fail
                  go_roundw
                  case rel => exact ⟨q + 1, by go_num, by omega, HC1, hm3, b3⟩
                  case measure => simp [intOf]; omega
                · have hzz : (chanErr f ps.length (cs.take q) cs[q] != 0) = true := by simp [hz]
                  have HR : Hid (checkF ⟨f, ps, cs⟩ = chanErr f ps.length (cs.take q) cs[q]) := by
                    have h1 : firstNZ (chanAt ⟨f, ps, cs⟩) cs.length = chanErr f ps.length (cs.take q) cs[q] := by
                      rw [← HAT.out]; exact firstNZ_stop HC0.out (by rw [HAT.out]; exact hz) hql
                    show _ = _
                    unfold checkF
                    rw [if_neg (by simp only []; omega), if_neg (by rw [HNM.out]; simp), if_neg (by simp only []; rw [HZ2.out]; simp), if_pos (by simp only []; rw [h1]; exact hz)]
                    exact h1
                  go_wp2_with fail
                  go_ret
                  exact ⟨by rw [HR.out]; rfl, b3⟩
              · have hql' : ¬ (q : Int) < (cs.length : Int) := by omega
                have hqe : q = cs.length := by omega
                have HC2 : Hid (firstNZ (chanAt ⟨f, ps, cs⟩) cs.length = 0) := by have := HC0.out; rw [hqe] at this; exact this
                have HR : Hid (checkF ⟨f, ps, cs⟩ = if f < T then 16 else if 64 < P then 17 else 0) := by
                  show _ = _
                  unfold checkF
                  rw [if_neg (by simp only []; omega), if_neg (by rw [HNM.out]; simp), if_neg (by simp only []; rw [HZ2.out]; simp), if_neg (by simp only []; rw [HC2.out]; simp), ← HP2.out, ← HT2.out]
                by_cases h16 : f < T
                · have z1 : decide (f < T) = true := by simp [h16]
                  go_wp2_with fail
                  go_ret
                  exact ⟨by rw [HR.out, if_pos h16]; rfl, b2⟩
                have z1 : decide (f < T) = false := by rw [decide_eq_false_iff_not]; exact h16
                by_cases h17 : 64 < P
                · have z2 : decide (64 < P) = true := by simp [h17]
                  go_wp2_with fail
                  go_ret
                  exact ⟨by rw [HR.out, if_neg (by omega), if_pos h17]; rfl, b2⟩
                have z2 : decide (64 < P) = false := by rw [decide_eq_false_iff_not]; exact h17
                go_wp2_with fail
                go_ret
                exact ⟨by rw [HR.out, if_neg (by omega), if_neg (by omega)]; rfl, b2⟩
      · go_wp2_with fail
        go_ret
        refine ⟨?_, hb0⟩
        have : checkF ⟨f, ps, cs⟩ = 6 := by unfold checkF; rw [if_neg (by simp only []; omega), if_pos (by rw [HMW.out]; exact HW2.out.symm)]
        rw [this]; rfl
end Go.Proofs.YteioennfpkoagaaGreatDoor.C
namespace Go.Proofs.YteioennfpkoagaaGreatDoor.C
open Go.RowKit
attribute [local go_sem ↓] Go.wp_at_zero Go.wp_at_succ

def exPs : List PartD := [⟨⟨#[97]⟩, 2, 1, 2, [⟨0, 2, 2⟩]⟩, ⟨⟨#[98]⟩, 3, 1, 1, []⟩]
def exCs : List ChanD := [⟨⟨#[99]⟩, 0, 1, 1, 4, 2⟩]
theorem ex_ok : checkF ⟨6, exPs, exCs⟩ = 0 := by kernel_rfl
set_option maxRecDepth 100000 in
set_option maxHeartbeats 2000000 in
theorem example_any (w : World) : Calls Tryz.prog 47 #[] w fun e w' => ∃ pv cv, e = .returned (.agg #[.int .i64 6, pv, cv]) ∧ PartsV w' pv exPs ∧ ChansV w' cv exCs ∧ (PartsC w' pv exPs.length ∧ capV cv) ∧ Below w.heap.size w w' := by
  go_enter Tryz.func47, Tryz.ntmps47
  go_wp2_with fail
  refine bodyPost_ret (v := .agg #[.int .i64 6, .slice (some ⟨w.heap.size + 1 + 1 + 1 + 1, 0, none⟩) 2 2, .slice (some ⟨w.heap.size + 1 + 1 + 1 + 1 + 1, 0, none⟩) 1 1]) (by simp [results, Tryz.results47, go_sem]) rfl ?_
  have h2 := heap_new (w.alloc (.cells #[.int .i64 6, .slice (some ⟨w.heap.size + 1 + 1 + 1 + 1, 0, none⟩) 2 2, .slice (some ⟨w.heap.size + 1 + 1 + 1 + 1 + 1, 0, none⟩) 1 1] 34)) (.cells #[.int .i64 0, .int .i64 2, .int .i64 2] 90)
  have h5 := heap_new ((((w.alloc (.cells #[.int .i64 6, .slice (some ⟨w.heap.size + 1 + 1 + 1 + 1, 0, none⟩) 2 2, .slice (some ⟨w.heap.size + 1 + 1 + 1 + 1 + 1, 0, none⟩) 1 1] 34)).alloc (.cells #[.int .i64 0, .int .i64 2, .int .i64 2] 90)).alloc (.cells #[.string ⟨#[97]⟩, .int .i64 2, .int .i64 1, .int .i64 2, .slice (some ⟨w.heap.size + 1, 0, none⟩) 1 1] 42)).alloc (.cells #[.string ⟨#[98]⟩, .int .i64 3, .int .i64 1, .int .i64 1, .slice none 0 0] 42)) (.cells #[.string ⟨#[97]⟩, .int .i64 2, .int .i64 1, .int .i64 2, .slice (some ⟨w.heap.size + 1, 0, none⟩) 1 1, .string ⟨#[98]⟩, .int .i64 3, .int .i64 1, .int .i64 1, .slice none 0 0] 42)
  have h6 := heap_new (((((w.alloc (.cells #[.int .i64 6, .slice (some ⟨w.heap.size + 1 + 1 + 1 + 1, 0, none⟩) 2 2, .slice (some ⟨w.heap.size + 1 + 1 + 1 + 1 + 1, 0, none⟩) 1 1] 34)).alloc (.cells #[.int .i64 0, .int .i64 2, .int .i64 2] 90)).alloc (.cells #[.string ⟨#[97]⟩, .int .i64 2, .int .i64 1, .int .i64 2, .slice (some ⟨w.heap.size + 1, 0, none⟩) 1 1] 42)).alloc (.cells #[.string ⟨#[98]⟩, .int .i64 3, .int .i64 1, .int .i64 1, .slice none 0 0] 42)).alloc (.cells #[.string ⟨#[97]⟩, .int .i64 2, .int .i64 1, .int .i64 2, .slice (some ⟨w.heap.size + 1, 0, none⟩) 1 1, .string ⟨#[98]⟩, .int .i64 3, .int .i64 1, .int .i64 1, .slice none 0 0] 42)) (.cells #[.string ⟨#[99]⟩, .int .i64 0, .int .i64 1, .int .i64 1, .int .i64 4, .int .i64 2] 92)
  simp only [World.size_alloc] at h2 h5 h6
  have g2 := heap_old (((((w.alloc (.cells #[.int .i64 6, .slice (some ⟨w.heap.size + 1 + 1 + 1 + 1, 0, none⟩) 2 2, .slice (some ⟨w.heap.size + 1 + 1 + 1 + 1 + 1, 0, none⟩) 1 1] 34)).alloc (.cells #[.int .i64 0, .int .i64 2, .int .i64 2] 90)).alloc (.cells #[.string ⟨#[97]⟩, .int .i64 2, .int .i64 1, .int .i64 2, .slice (some ⟨w.heap.size + 1, 0, none⟩) 1 1] 42)).alloc (.cells #[.string ⟨#[98]⟩, .int .i64 3, .int .i64 1, .int .i64 1, .slice none 0 0] 42)).alloc (.cells #[.string ⟨#[97]⟩, .int .i64 2, .int .i64 1, .int .i64 2, .slice (some ⟨w.heap.size + 1, 0, none⟩) 1 1, .string ⟨#[98]⟩, .int .i64 3, .int .i64 1, .int .i64 1, .slice none 0 0] 42)) (.cells #[.string ⟨#[99]⟩, .int .i64 0, .int .i64 1, .int .i64 1, .int .i64 4, .int .i64 2] 92) (heap_old ((((w.alloc (.cells #[.int .i64 6, .slice (some ⟨w.heap.size + 1 + 1 + 1 + 1, 0, none⟩) 2 2, .slice (some ⟨w.heap.size + 1 + 1 + 1 + 1 + 1, 0, none⟩) 1 1] 34)).alloc (.cells #[.int .i64 0, .int .i64 2, .int .i64 2] 90)).alloc (.cells #[.string ⟨#[97]⟩, .int .i64 2, .int .i64 1, .int .i64 2, .slice (some ⟨w.heap.size + 1, 0, none⟩) 1 1] 42)).alloc (.cells #[.string ⟨#[98]⟩, .int .i64 3, .int .i64 1, .int .i64 1, .slice none 0 0] 42)) (.cells #[.string ⟨#[97]⟩, .int .i64 2, .int .i64 1, .int .i64 2, .slice (some ⟨w.heap.size + 1, 0, none⟩) 1 1, .string ⟨#[98]⟩, .int .i64 3, .int .i64 1, .int .i64 1, .slice none 0 0] 42) (heap_old (((w.alloc (.cells #[.int .i64 6, .slice (some ⟨w.heap.size + 1 + 1 + 1 + 1, 0, none⟩) 2 2, .slice (some ⟨w.heap.size + 1 + 1 + 1 + 1 + 1, 0, none⟩) 1 1] 34)).alloc (.cells #[.int .i64 0, .int .i64 2, .int .i64 2] 90)).alloc (.cells #[.string ⟨#[97]⟩, .int .i64 2, .int .i64 1, .int .i64 2, .slice (some ⟨w.heap.size + 1, 0, none⟩) 1 1] 42)) (.cells #[.string ⟨#[98]⟩, .int .i64 3, .int .i64 1, .int .i64 1, .slice none 0 0] 42) (heap_old ((w.alloc (.cells #[.int .i64 6, .slice (some ⟨w.heap.size + 1 + 1 + 1 + 1, 0, none⟩) 2 2, .slice (some ⟨w.heap.size + 1 + 1 + 1 + 1 + 1, 0, none⟩) 1 1] 34)).alloc (.cells #[.int .i64 0, .int .i64 2, .int .i64 2] 90)) (.cells #[.string ⟨#[97]⟩, .int .i64 2, .int .i64 1, .int .i64 2, .slice (some ⟨w.heap.size + 1, 0, none⟩) 1 1] 42) h2)))
  have g5 := heap_old (((((w.alloc (.cells #[.int .i64 6, .slice (some ⟨w.heap.size + 1 + 1 + 1 + 1, 0, none⟩) 2 2, .slice (some ⟨w.heap.size + 1 + 1 + 1 + 1 + 1, 0, none⟩) 1 1] 34)).alloc (.cells #[.int .i64 0, .int .i64 2, .int .i64 2] 90)).alloc (.cells #[.string ⟨#[97]⟩, .int .i64 2, .int .i64 1, .int .i64 2, .slice (some ⟨w.heap.size + 1, 0, none⟩) 1 1] 42)).alloc (.cells #[.string ⟨#[98]⟩, .int .i64 3, .int .i64 1, .int .i64 1, .slice none 0 0] 42)).alloc (.cells #[.string ⟨#[97]⟩, .int .i64 2, .int .i64 1, .int .i64 2, .slice (some ⟨w.heap.size + 1, 0, none⟩) 1 1, .string ⟨#[98]⟩, .int .i64 3, .int .i64 1, .int .i64 1, .slice none 0 0] 42)) (.cells #[.string ⟨#[99]⟩, .int .i64 0, .int .i64 1, .int .i64 1, .int .i64 4, .int .i64 2] 92) h5
  have hb : Below w.heap.size w ((((((w.alloc (.cells #[.int .i64 6, .slice (some ⟨w.heap.size + 1 + 1 + 1 + 1, 0, none⟩) 2 2, .slice (some ⟨w.heap.size + 1 + 1 + 1 + 1 + 1, 0, none⟩) 1 1] 34)).alloc (.cells #[.int .i64 0, .int .i64 2, .int .i64 2] 90)).alloc (.cells #[.string ⟨#[97]⟩, .int .i64 2, .int .i64 1, .int .i64 2, .slice (some ⟨w.heap.size + 1, 0, none⟩) 1 1] 42)).alloc (.cells #[.string ⟨#[98]⟩, .int .i64 3, .int .i64 1, .int .i64 1, .slice none 0 0] 42)).alloc (.cells #[.string ⟨#[97]⟩, .int .i64 2, .int .i64 1, .int .i64 2, .slice (some ⟨w.heap.size + 1, 0, none⟩) 1 1, .string ⟨#[98]⟩, .int .i64 3, .int .i64 1, .int .i64 1, .slice none 0 0] 42)).alloc (.cells #[.string ⟨#[99]⟩, .int .i64 0, .int .i64 1, .int .i64 1, .int .i64 4, .int .i64 2] 92)) := ((((((Below.refl _ _).alloc (Nat.le_refl _) _).alloc (by simp) _).alloc (by simp; omega) _).alloc (by simp; omega) _).alloc (by simp; omega) _).alloc (by simp; omega) _
  generalize ((((((w.alloc (.cells #[.int .i64 6, .slice (some ⟨w.heap.size + 1 + 1 + 1 + 1, 0, none⟩) 2 2, .slice (some ⟨w.heap.size + 1 + 1 + 1 + 1 + 1, 0, none⟩) 1 1] 34)).alloc (.cells #[.int .i64 0, .int .i64 2, .int .i64 2] 90)).alloc (.cells #[.string ⟨#[97]⟩, .int .i64 2, .int .i64 1, .int .i64 2, .slice (some ⟨w.heap.size + 1, 0, none⟩) 1 1] 42)).alloc (.cells #[.string ⟨#[98]⟩, .int .i64 3, .int .i64 1, .int .i64 1, .slice none 0 0] 42)).alloc (.cells #[.string ⟨#[97]⟩, .int .i64 2, .int .i64 1, .int .i64 2, .slice (some ⟨w.heap.size + 1, 0, none⟩) 1 1, .string ⟨#[98]⟩, .int .i64 3, .int .i64 1, .int .i64 1, .slice none 0 0] 42)).alloc (.cells #[.string ⟨#[99]⟩, .int .i64 0, .int .i64 1, .int .i64 1, .int .i64 4, .int .i64 2] 92)) = V at *
  refine ⟨_, _, rfl, ⟨_, _, rfl, ?_⟩, ⟨_, _, rfl, ?_⟩, ⟨⟨⟨_, _, _, rfl, Nat.le_refl _⟩, ?_⟩, ⟨_, _, _, rfl, Nat.le_refl _⟩⟩, hb⟩
  · intro i hi
    have : i = 0 ∨ i = 1 := by have : i < 2 := hi; omega
    rcases this with rfl | rfl
    · refine ⟨_, _, _, rfl, by rw [cell_of_blk g5]; rfl, by rw [cell_of_blk g5]; rfl, by rw [cell_of_blk g5]; rfl, by rw [cell_of_blk g5]; rfl, by rw [cell_of_blk g5]; rfl, ⟨_, _, rfl, ?_⟩⟩
      intro j hj
      have : j = 0 := by have : j < 1 := hj; omega
      subst this
      exact ⟨_, _, rfl, by rw [cell_of_blk g2]; rfl, by rw [cell_of_blk g2]; rfl, by rw [cell_of_blk g2]; rfl⟩
    · refine ⟨_, _, _, rfl, by rw [cell_of_blk g5]; rfl, by rw [cell_of_blk g5]; rfl, by rw [cell_of_blk g5]; rfl, by rw [cell_of_blk g5]; rfl, by rw [cell_of_blk g5]; rfl, ⟨_, _, rfl, ?_⟩⟩
      intro j hj
      exact absurd hj (by simp [exPs])
  · intro i hi
    have : i = 0 := by have : i < 1 := hi; omega
    subst this
    exact ⟨_, _, rfl, by rw [cell_of_blk h6]; rfl, by rw [cell_of_blk h6]; rfl, by rw [cell_of_blk h6]; rfl, by rw [cell_of_blk h6]; rfl, by rw [cell_of_blk h6]; rfl, by rw [cell_of_blk h6]; rfl⟩
  · intro i hi b off l c e rv hc
    cases e
    have : i = 0 ∨ i = 1 := by have : i < 2 := hi; omega
    rcases this with rfl | rfl
    · rw [cell_of_blk g5] at hc
      exact ⟨_, _, _, (Option.some.inj hc).symm, Nat.le_refl _⟩
    · rw [cell_of_blk g5] at hc
      exact ⟨_, _, _, (Option.some.inj hc).symm, Nat.le_refl _⟩
end Go.Proofs.YteioennfpkoagaaGreatDoor.C
