import Derived.Test.YteioennfpkoagaaGreatDoorB16
namespace Go.Proofs.YteioennfpkoagaaGreatDoor.C
open Go.RowKit K
attribute [local go_sem ↓] Go.wp_at_zero Go.wp_at_succ

set_option maxRecDepth 100000 in
set_option maxHeartbeats 4000000 in
theorem compile_anyF (f : Int) (ps : List PartD) (cs : List ChanD) (pv cv : Value) (w : World) (hp : PartsV w pv ps) (hpc : PartsC w pv ps.length) (hc : ChansV w cv cs) (hcc : capV cv) (hn : ps.length ≤ 2199023255552) (hm : cs.length ≤ 2513169434844) (hr : ∀ i (hi : i < ps.length), ps[i].regs.length ≤ 5864062014635) :
    Calls Tryz.prog 23 #[.agg #[.int .i64 f, pv, cv]] w fun e w' => (¬ checkF ⟨f, ps, cs⟩ = 0 ∧ e = .returned (.tuple #[.string ⟨#[]⟩, .int .i64 (checkF ⟨f, ps, cs⟩)]) ∧ Below w.heap.size w w') ∨ (checkF ⟨f, ps, cs⟩ = 0 ∧ Below w.heap.size w w' ∧ e = .returned (.tuple #[.string (ba (imgF ⟨f, ps, cs⟩)), .int .i64 0])) := by
  have HP : Hid _ := hp
  have HPC : Hid _ := hpc
  have HC : Hid _ := hc
  have HCC : Hid _ := hcc
  have HR : Hid _ := hr
  clear hpc hcc hr
  obtain ⟨va, cap, rfl, hx⟩ := hp
  clear hx
  obtain ⟨ca, ck, rfl, hx⟩ := hc
  clear hx
  have b0 := newB w (.cells #[.int .i64 f, .slice va ps.length cap, .slice ca cs.length ck] 34)
  have h0 := heap_new w (.cells #[.int .i64 f, .slice va ps.length cap, .slice ca cs.length ck] 34)
  go_enter Tryz.func23, Tryz.ntmps23
  go_wp2_with fail
  generalize w.alloc (.cells #[.int .i64 f, .slice va ps.length cap, .slice ca cs.length ck] 34) = W0 at *
  refine Calls.mono (manCheck_any f ps cs _ _ W0 (PartsV.below HP.out b0) (PartsC.below HP.out HPC.out b0) (ChansV.below HC.out b0) HCC.out (by omega) (fun k hk => by have := HR.out k hk; omega) (by omega)) ?_
  rintro e w2 ⟨rfl, hb2⟩
  have m2 := keepN h0 hb2
  have y0 : w2.cell? ⟨w.heap.size, 0, none⟩ = some (.int .i64 f) := by rw [cell_of_blk m2]; rfl
  have y1 : w2.cell? ⟨w.heap.size, 1, none⟩ = some (.slice va ps.length cap) := by rw [cell_of_blk m2]; rfl
  have y2 : w2.cell? ⟨w.heap.size, 2, none⟩ = some (.slice ca cs.length ck) := by rw [cell_of_blk m2]; rfl
  have bw2 := b0.trans (hb2.mono b0.size)
  clear h0 m2 b0 hb2
  by_cases hz : checkF ⟨f, ps, cs⟩ = 0
  · obtain ⟨hT, hS⟩ := check_fit hz
    have hf := check_ok hz
    simp only [] at hT hS
    have hf1 : 1 ≤ f := hf.1
    have hf2 : f ≤ 240 := hf.2.1
    have hpl : ps.length ≤ 8 := hf.2.2.1
    have hcl : cs.length ≤ 8 := hf.2.2.2.1
    have HRL : Hid (∀ x ∈ ps, x.regs.length ≤ 4) := fun x hx => by
      obtain ⟨i, hi, rfl⟩ := List.getElem_of_mem hx
      exact (hf.2.2.2.2.1 i hi).1
    have HT : Hid _ := hT
    have HS : Hid _ := hS
    have HZ : Hid _ := hz
    clear hf hT hS
    obtain ⟨n, rfl⟩ : ∃ n : Nat, f = n := ⟨f.toNat, by omega⟩
    rw [hz]
    clear hz
    go_wp2_with fail
    go_region_held3 (fun w' => w'.cell? ⟨w.heap.size, 0, none⟩ = some (.int .i64 n) ∧ w'.cell? ⟨w.heap.size, 1, none⟩ = some (.slice va ps.length cap) ∧ w'.cell? ⟨w.heap.size, 2, none⟩ = some (.slice ca cs.length ck) ∧ Below w.heap.size w w') (first | with_reducible assumption | exact ⟨y0, y1, y2, bw2.drew⟩ | with_reducible exact keep3 (by assumption) hb3 (Nat.le_refl _) | with_reducible exact keep3 (by assumption) hb4 (Nat.le_refl _)) ((first
      | (go_at_call 56
         refine (plan_any n ps _ _ _ (PartsV.below HP.out (by first | exact bw2.drew | exact bw2 | exact (‹World.cell? _ ⟨w.heap.size, 0, none⟩ = _ ∧ _ ∧ _ ∧ Below w.heap.size w _›).2.2.2)) ⟨_, _, _, rfl⟩ HT.out HS.out (by omega) hpl).mono ?_
         rintro e w3 ⟨v, rfl, hown, hb3⟩
         have hq := plan_see (l := (planN ps n).1) (by rw [(planN_len ps n).1]; exact hown)
         have hb30 : Below w.heap.size w w3 := by
           first | exact bw2.drew.trans (hb3.mono bw2.drew.size) | exact bw2.trans (hb3.mono bw2.size) | exact (‹World.cell? _ ⟨w.heap.size, 0, none⟩ = _ ∧ _ ∧ _ ∧ Below w.heap.size w _›).2.2.2.trans (hb3.mono (‹World.cell? _ ⟨w.heap.size, 0, none⟩ = _ ∧ _ ∧ _ ∧ Below w.heap.size w _›).2.2.2.size)
         clear hown)
      | (go_at_call 63
         refine (write_any _ n _ _ _ ⟨n, ps, cs⟩ (planN ps n).1 (PartsV.below HP.out hb30) (ChansV.below HC.out hb30) hq hpl hcl HRL.out (by rw [(planN_len ps n).1]; omega) (plan_mem ps n hpl)).mono ?_
         rintro e w4 ⟨rfl, hb4⟩)))
    all_goals (have hS := ‹World.cell? _ ⟨w.heap.size, 0, none⟩ = _ ∧ _ ∧ _ ∧ Below w.heap.size w _›)
    all_goals (go_wp2_with fail)
    all_goals go_ret2
    all_goals exact .inr ⟨HZ.out, hb30.trans (hb4.mono hb30.size), rfl⟩
  · have HZ : Hid _ := hz
    go_wp2_with fail
    go_ret2
    exact .inl ⟨HZ.out, rfl, bw2⟩
end Go.Proofs.YteioennfpkoagaaGreatDoor.C
