import Derived.Test.YteioennfpkoagabGreatDoorH14
import Derived.Test.YteioennfpkoagabGreatDoorH05
import Derived.Test.YteioennfpkoagabGreatDoorH04
namespace Go.Proofs.YteioennfpkoagabGreatDoor.C
open Go.RowKit
attribute [local go_sem ↓] Go.wp_at_zero Go.wp_at_succ

theorem own_lower {w : World} {B B' e s n : Nat} {v : Value} {xs : List Value} (h : w.ownsRow B e s v n xs) (hb : B' ≤ B) : w.ownsRow B' e s v n xs := by
  refine ⟨h.1, ?_⟩
  rcases h.2 with hn | ⟨g, cap, cur, hv, hB, rest⟩
  · exact .inl hn
  · exact .inr ⟨g, cap, cur, hv, Nat.le_trans hb hB, rest⟩
theorem check_fit {M : ManD} (h : checkF M = 0) : PartsT M.frame M.parts ∧ SmallP M.parts := by
  obtain ⟨h1, h2, h3, h4, h5, h6⟩ := check_ok h
  have hp : ∀ k (hk : k < M.parts.length), (1 ≤ M.parts[k].period ∧ M.parts[k].period ≤ M.frame ∧ M.frame % M.parts[k].period = 0) ∧ 1 ≤ M.parts[k].duration ∧ M.parts[k].duration ≤ M.parts[k].period := fun k hk => by
    have h := (h5 k hk).2
    unfold partErr at h
    split at h
    · cases h
    split at h
    · cases h
    split at h
    · cases h
    rename_i a b c
    refine ⟨⟨?_, ?_, ?_⟩, ?_, ?_⟩ <;> omega
  have hfit : ticksF M.frame M.parts ≤ M.frame := by
    unfold checkF at h
    split at h
    · cases h
    split at h
    · cases h
    split at h
    · rename_i h7; exact absurd h h7
    split at h
    · rename_i h7; exact absurd h h7
    split at h
    · cases h
    omega
  exact ⟨⟨h1, fun j hj => ⟨(hp j hj).1.1, (hp j hj).1.2.2⟩, fun j hj => (hp j hj).2.1, hfit⟩, ⟨fun j hj => by have := (hp j hj).1; omega, fun j hj => by have := (hp j hj).1; have := (hp j hj).2; omega⟩⟩
set_option maxRecDepth 100000 in
set_option maxHeartbeats 4000000 in
theorem planC_true : PlanC := by
  intro f ps cs pv cv w hp hpc hc hcc hn hm hr
  have HP : Hid _ := hp
  have HPC : Hid _ := hpc
  have HC : Hid _ := hc
  have HCC : Hid _ := hcc
  have HR : Hid _ := hr
  clear hpc hcc hr
  obtain ⟨va, cap, rfl, hx⟩ := hp
  clear hx
  obtain ⟨ca, ck, rfl, hx⟩ := hc
  clear hx
  have b0 := newB w (.cells #[.int .i64 f, .slice va ps.length cap, .slice ca cs.length ck] 31)
  have h0 := heap_new w (.cells #[.int .i64 f, .slice va ps.length cap, .slice ca cs.length ck] 31)
  go_enter Tryz.func19, Tryz.ntmps19
  go_wp2_with fail
  generalize w.alloc (.cells #[.int .i64 f, .slice va ps.length cap, .slice ca cs.length ck] 31) = W0 at *
  refine Calls.mono (manCheck_any f ps cs _ _ W0 (PartsV.below HP.out b0) (PartsC.below HP.out HPC.out b0) (ChansV.below HC.out b0) HCC.out (by omega) (fun k hk => by have := HR.out k hk; omega) (by omega)) ?_
  rintro e w2 ⟨rfl, hb2⟩
  have m2 := keepN h0 hb2
  have y0 : w2.cell? ⟨w.heap.size, 0, none⟩ = some (.int .i64 f) := by rw [cell_of_blk m2]; rfl
  have y1 : w2.cell? ⟨w.heap.size, 1, none⟩ = some (.slice va ps.length cap) := by rw [cell_of_blk m2]; rfl
  have y2 : w2.cell? ⟨w.heap.size, 2, none⟩ = some (.slice ca cs.length ck) := by rw [cell_of_blk m2]; rfl
  have bw2 := b0.trans (hb2.mono b0.size)
  clear h0 m2 b0 hb2
  by_cases hz : checkF ⟨f, ps, cs⟩ = 0
  · obtain ⟨hT, hS⟩ := check_fit hz
    have hf := check_ok hz
    simp only [] at hT hS
    have hf1 : 1 ≤ f := hf.1
    have hf2 : f ≤ 240 := hf.2.1
    have hpl : ps.length ≤ 8 := hf.2.2.1
    have HT : Hid _ := hT
    have HS : Hid _ := hS
    have HZ : Hid _ := hz
    clear hf hT hS
    obtain ⟨n, rfl⟩ : ∃ n : Nat, f = n := ⟨f.toNat, by omega⟩
    rw [hz]
    clear hz
    go_wp2_with fail
    refine Calls.mono (plan_any n ps _ _ w2 (PartsV.below HP.out bw2) ⟨_, _, _, rfl⟩ HT.out HS.out (by omega) hpl) ?_
    rintro e w3 ⟨v, rfl, hown, hb3⟩
    go_wp2_with fail
    go_ret2
    refine .inr ⟨HZ.out, bw2.trans (hb3.mono bw2.size), v, rfl, ?_⟩
    have e1 : (planF ⟨n, ps, cs⟩) = (planN ps n).1 := rfl
    rw [e1, (planN_len ps n).1]
    exact own_lower hown bw2.size
  · have HZ : Hid _ := hz
    go_wp2_with fail
    go_ret2
    exact .inl ⟨HZ.out, rfl, bw2⟩
end Go.Proofs.YteioennfpkoagabGreatDoor.C
