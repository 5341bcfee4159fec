import Derived.Test.YteioennfpkoagaaPlnE
import Derived.Test.YteioennfpkoagaaPlnX
import Derived.Test.YteioennfpkoagaaKptB
import Derived.Test.YteioennfpkoagaaChkW
import Derived.Test.YteioennfpkoagaaChkX
namespace Go.Proofs.Yteioennfpkoagaa.C
open Go.RowKit
attribute [local go_sem ↓] Go.wp_at_zero Go.wp_at_succ

/- what the program's Plan must do (proved of each commit's own code) -/
/- one answer, of either side: the list of it, its error -/
def ansL (M : ManD) : List Int := if checkF M = 0 then planF M else []
theorem ansL_len {M : ManD} : (ansL M).length ≤ 8193 := by
  unfold ansL
  split
  · rename_i h
    have := (check_ok h).2.1
    have h1 := (check_ok h).1
    unfold planF
    rw [(planN_len M.parts M.frame.toNat).1]
    omega
  · simp
theorem ans_of {M : ManD} {w w' : World} {e : Ending} (h : (¬ checkF M = 0 ∧ e = .returned (.tuple #[.slice none 0 0, .int .i64 (checkF M)]) ∧ Below w.heap.size w w') ∨ (checkF M = 0 ∧ Below w.heap.size w w' ∧ ∃ v, e = .returned (.tuple #[v, .int .i64 0]) ∧ w'.ownsRow w.heap.size 3 1 v (planF M).length (intsC (planF M)))) :
    ∃ v, e = .returned (.tuple #[v, .int .i64 (checkF M)]) ∧ w'.ownsRow w.heap.size 3 1 v (ansL M).length (intsC (ansL M)) ∧ Below w.heap.size w w' := by
  rcases h with ⟨h1, h2, h3⟩ | ⟨h1, h2, v, h3, h4⟩
  · refine ⟨_, h2, ?_, h3⟩
    unfold ansL
    rw [if_neg h1]
    exact World.ownsRow_nil _ _ _ _
  · refine ⟨v, by rw [h1]; exact h3, ?_, h2⟩
    unfold ansL
    rw [if_pos h1]
    exact h4
set_option maxRecDepth 100000 in
set_option maxHeartbeats 4000000 in
theorem planned_any (hPlan : PlanC) (w : World) (B bb : Nat) (tv : Value) (T : List Value) (f : Int) (ps : List PartD) (cs : List ChanD) (pv cv : Value) (hb : BookT w B bb tv T) (hBs : B ≤ w.heap.size) (hTl : T.length ≤ 900000000000) (hp : PartsV w pv ps) (hc : ChansV w cv cs) (hn : ps.length ≤ 1048576) (hm : cs.length ≤ 1048576) (hr : ∀ i (hi : i < ps.length), ps[i].regs.length ≤ 1048576) :
    Calls Try.prog 5 #[.pointer (some ⟨bb, 0, none⟩), .agg #[.int .i64 f, pv, cv]] w fun e w' => e = .returned (.bool true) ∧ (∃ tv' T', BookT w' B bb tv' T' ∧ T'.length = T.length + 4) ∧ Below B w w' := by
  have HPL : Hid PlanC := hPlan
  have HBK : Hid (BookT w B bb tv T) := hb
  have HP : Hid (PartsV w pv ps) := hp
  have HCV : Hid (ChansV w cv cs) := hc
  have HR : Hid _ := hr
  clear hr hPlan hb
  obtain ⟨va, cap, rfl, hx⟩ := hp
  clear hx
  obtain ⟨ca, ck, rfl, hx⟩ := hc
  clear hx
  have b0 := newB w (.cells #[.int .i64 f, .slice va ps.length cap, .slice ca cs.length ck] 34)
  have h0 := heap_new w (.cells #[.int .i64 f, .slice va ps.length cap, .slice ca cs.length ck] 34)
  go_enter Try.func5, Try.ntmps5
  have bl := newB (w.alloc (.cells #[.int .i64 f, .slice va ps.length cap, .slice ca cs.length ck] 34)) (.cells #[.slice none 0 0, .slice none 0 0, .slice none 0 0, .slice none 0 0, .int .i64 0, .slice none 0 0, .slice none 0 0] 49)
  have hl := heap_new (w.alloc (.cells #[.int .i64 f, .slice va ps.length cap, .slice ca cs.length ck] 34)) (.cells #[.slice none 0 0, .slice none 0 0, .slice none 0 0, .slice none 0 0, .int .i64 0, .slice none 0 0, .slice none 0 0] 49)
  go_wp2_with fail
  have hsz0 : w.heap.size + 1 = (w.alloc (.cells #[.int .i64 f, .slice va ps.length cap, .slice ca cs.length ck] 34)).heap.size := by simp
  generalize w.alloc (.cells #[.int .i64 f, .slice va ps.length cap, .slice ca cs.length ck] 34) = W0 at *
  rw [hsz0]
  refine (lent_any W0 _ W0.heap.size f _ _ ps cs bl (PartsV.below HP.out b0) (ChansV.below HCV.out b0) (Nat.le_refl _) hl hn hm HR.out).mono ?_
  rintro e w2 ⟨pv2, cv2, rfl, hp2, hc2, ⟨hpc2, hcc2⟩, pb, hb2, rgv, ctv, G, hL⟩
  clear bl hl
  have bL := hL.low
  have HL : Hid _ := hL
  have bw2 := b0.trans (bL.mono b0.size)
  clear hL
  go_wp2_with fail
  refine (HPL.out f ps cs pv2 cv2 w2 hp2 hpc2 hc2 hcc2 hn hm HR.out).mono ?_
  rintro e w3 hor
  obtain ⟨p, rfl, hown, b3⟩ := ans_of hor
  clear hor hp2 hc2 hpc2 hcc2
  have bL3 := bL.trans (b3.mono bL.size)
  have h3 := keepN h0 bL3
  have bw3 := b0.trans (bL3.mono b0.size)
  have HOW : Hid _ := hown
  obtain ⟨pa, pc, rfl⟩ := own_shape hown
  clear hown
  have z0 : w3.cell? ⟨w.heap.size, 0, none⟩ = some (.int .i64 f) := by rw [cell_of_blk h3]; rfl
  have z1 : w3.cell? ⟨w.heap.size, 1, none⟩ = some (.slice va ps.length cap) := by rw [cell_of_blk h3]; rfl
  have z2 : w3.cell? ⟨w.heap.size, 2, none⟩ = some (.slice ca cs.length ck) := by rw [cell_of_blk h3]; rfl
  go_wp2_with fail
  clear z0 z1 z2
  refine (refPlan_any f ps cs _ _ w3 (PartsV.below HP.out bw3) (ChansV.below HCV.out bw3) (by omega)).mono ?_
  rintro e w4 hor
  obtain ⟨q, rfl, hown2, b4⟩ := ans_of hor
  clear hor
  have HOW2 : Hid _ := hown2
  obtain ⟨qa, qc, rfl⟩ := own_shape hown2
  clear hown2
  go_wp2_with fail
  have hAL := ansL_len (M := ⟨f, ps, cs⟩)
  refine (sameInts_true w4 _ _ _ _ (ansL ⟨f, ps, cs⟩) (by omega) (own_below HOW.out b4) HOW2.out).mono ?_
  rintro e w5 ⟨rfl, b5⟩
  have b35 := b4.trans (b5.mono b4.size)
  have b25 := b3.trans (b35.mono b3.size)
  go_wp2_with fail
  refine (kept_any W0 w5 W0.heap.size pb hb2 f _ _ ps cs rgv ctv G (HL.out.below b25) (PartsV.below HP.out b0) (ChansV.below HCV.out b0) hn hm HR.out).mono ?_
  rintro e w6 ⟨rfl, b6⟩
  have b36 := b35.trans (b6.mono b35.size)
  have b26 := b25.trans (b6.mono b25.size)
  have bw6 := bw2.trans (b26.mono bw2.size)
  have hown6 := own_below HOW.out b36
  have hl6 := own_mono hown6 (show B ≤ w2.heap.size from Nat.le_trans hBs bw2.size)
  go_wp2_with fail
  refine (keepTicks_any w6 B bb _ tv _ T _ (HBK.out.below bw6) hl6 (by omega) (by omega) (Nat.le_trans hBs bw6.size) (fun u hu x hx hx2 => ?_)).mono ?_
  · obtain ⟨i, hi, rfl⟩ := List.getElem_of_mem hu
    obtain ⟨n, _, ho⟩ := HBK.out.kT i hi
    have h1 := (ho.lt x hx).2
    have h2 := (hown6.lt x hx2).1
    have := bw2.size
    omega
  rintro e w7 ⟨rfl, ⟨tv', a1, a2, a3, hbk⟩, b7⟩
  have HBN : Hid _ := hbk
  clear hbk
  go_wp2_with fail
  go_ret
  exact ⟨by simp, ⟨_, _, HBN.out, by simp⟩, (bw6.mono hBs).trans b7⟩
end Go.Proofs.Yteioennfpkoagaa.C
