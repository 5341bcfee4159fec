import Derived.Test.YteioennfpkoagaaPlnS
namespace Go.Proofs.Yteioennfpkoagaa.C
open Go.RowKit
attribute [local go_sem ↓] Go.wp_at_zero Go.wp_at_succ

structure SmallP (ps : List PartD) : Prop where
  per : ∀ j (h : j < ps.length), 1 ≤ ps[j].period ∧ ps[j].period ≤ 240
  dur : ∀ j (h : j < ps.length), 1 ≤ ps[j].duration ∧ ps[j].duration ≤ 240
set_option maxRecDepth 100000 in
set_option maxHeartbeats 4000000 in
theorem begin_any (w0 w : World) (tb : Nat) (F : Int) (ps : List PartD) (pv : Value) (t : Nat) (q : List TurnD) (hP : PartsV w0 pv ps) (h0 : w0.heap.size ≤ tb) (hb0 : Below w0.heap.size w0 w) (hps : PartsT F ps) (hsm : SmallP ps) (ht : t ≤ 240) (hpl : ps.length ≤ 8) (hq : QI w tb ps t (midF ps t 0) q) (hn : q.length ≤ 70000) :
    Calls Try.prog 33 #[.pointer (some ⟨tb, 0, none⟩), pv, .int .i64 t] w fun e w' => e = .returned (.tuple #[]) ∧ (∃ q', QI w' tb ps t (nowF ps t) q' ∧ q'.length ≤ q.length + ps.length) ∧ KF tb w w' := by
  obtain ⟨va, cap, rfl, hc⟩ := hP
  have HC : Hid _ := hc
  have HPT : Hid (PartsT F ps) := hps
  have HSM : Hid (SmallP ps) := hsm
  have HQ : Hid _ := hq
  have HB0 : Hid _ := hb0
  clear hc hps hsm hq hb0
  go_enter Try.func33, Try.ntmps33
  go_wp2_with fail
  go_loopw [10] (fun i wr => ∃ (k : Nat) (q1 : List TurnD), i = .int .i64 k ∧ k ≤ ps.length ∧ Hid (QI wr tb ps t (midF ps t k) q1) ∧ Hid (q1.length ≤ q.length + k) ∧ Hid (KF tb w wr)) (fun i _ => ps.length - (intOf i).toNat)
  case atStart => exact ⟨0, q, rfl, by omega, HQ, by show _ ≤ _; omega, KF.refl _ _⟩
  case round =>
    obtain ⟨k, q1, rfl, hk, HI, HL, HK⟩ := hrel
    by_cases hlt : k < ps.length
    · have hlt' : (k : Int) < (ps.length : Int) := by omega
      have hk0 : (0 : Int) ≤ (k : Int) := by omega
      have hbel : Below w0.heap.size w0 wr := HB0.out.trans (HK.out.bel.mono h0)
      obtain ⟨b, off, rv, rfl, c0, c1, c2, c3, c4, hrv⟩ := HC.out k hlt
      obtain ⟨ra, rcap, rfl, hrx⟩ := hrv
      clear hrx
      have hbl := World.block_lt_of_cell? w0 _ c0
      have d0 := (hbel.cell (by exact hbl)).trans c0
      have d1 := (hbel.cell (by exact hbl)).trans c1
      have d2 := (hbel.cell (by exact hbl)).trans c2
      have d3 := (hbel.cell (by exact hbl)).trans c3
      have d4 := (hbel.cell (by exact hbl)).trans c4
      clear c0 c1 c2 c3 c4 hbel
      obtain ⟨o1, o2⟩ := HSM.out.per k hlt
      obtain ⟨o3, o4⟩ := HSM.out.dur k hlt
      have HPE : Hid (perF ps k = ps[k].period) := by show _ = _; unfold perF; rw [dif_pos hlt]
      have HDE : Hid (durF ps k = ps[k].duration) := by show _ = _; unfold durF; rw [dif_pos hlt]
      generalize ps[k] = x at *
      have hpz : ¬ x.period = 0 := by omega
      have hpn : ¬ x.period = -1 := by omega
      have ht0 : (0 : Int) ≤ (t : Int) := by omega
      have w1 : IntKind.i64.wrap ((t : Int) + x.period) = (t : Int) + x.period := wrap_small _ (by omega) (by omega)
      have hlw := HI.out.mem.lt
      have ba : Below wr.heap.size wr (wr.alloc (.cells #[.string x.name, .int .i64 x.period, .int .i64 x.duration, .int .i64 x.action, .slice ra x.regs.length rcap] 45)) := (Below.refl _ _).alloc (Nat.le_refl _) _
      have h1 := heap_new wr (.cells #[.string x.name, .int .i64 x.period, .int .i64 x.duration, .int .i64 x.action, .slice ra x.regs.length rcap] 45)
      have HI2 : Hid _ := HI.out.mem.below ba
      have HK2 : Hid _ := HK.out.trans (KF.all ba hlw)
      clear ba
      by_cases hm : (t : Int) % x.period = 0
      · go_wp2_with fail
        refine Calls.mono (hpush_any _ tb q1 ⟨k, t + x.period, x.duration⟩ HI2.out (by have := HL.out; omega) HI.out.hp) ?_
        rintro e w6 ⟨rfl, ⟨q6, ht6, hh6, hp6⟩, hb6⟩
        have HQ6 : Hid (QD ps t (midF ps t (k + 1)) q6) := by
          have hmm : (t : Int) % perF ps k = 0 := by rw [HPE.out]; exact hm
          have := QD.begin HPT.out hlt HI.out.qd hmm
          rw [HPE.out, HDE.out] at this
          exact this.perm hp6
        have HL6 : Hid (q6.length ≤ q.length + (k + 1)) := by
          have := HL.out
          show _ ≤ _
          rw [hp6.length_eq, List.length_append]
          show q1.length + 1 ≤ _
          omega
        clear hp6
        go_wp2_with fail
        exact ⟨⟨k + 1, q6, by go_num, by omega, ⟨ht6, hh6, HQ6.out⟩, HL6, HK2.out.trans hb6⟩, by simp [intOf]; omega⟩
      · go_wp2_with fail
        have hmm : ¬ (t : Int) % perF ps k = 0 := by rw [HPE.out]; exact hm
        exact ⟨⟨k + 1, q1, by go_num, by omega, ⟨HI2.out, HI.out.hp, QD.pass HI.out.qd hmm⟩, by have := HL.out; show _ ≤ _; omega, HK2.out⟩, by simp [intOf]; omega⟩
    · have hlt' : ¬ (k : Int) < (ps.length : Int) := by omega
      have hke : k = ps.length := by omega
      go_wp2_with fail
      go_end0
      subst hke
      exact ⟨rfl, ⟨q1, ⟨HI.out.mem, HI.out.hp, HI.out.qd.full⟩, HL.out⟩, HK.out⟩
end Go.Proofs.Yteioennfpkoagaa.C
