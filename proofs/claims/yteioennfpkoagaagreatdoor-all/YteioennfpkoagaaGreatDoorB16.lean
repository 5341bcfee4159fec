import Derived.Test.YteioennfpkoagaaGreatDoorB10
import Derived.Test.YteioennfpkoagaaGreatDoorB15
import Derived.Test.YteioennfpkoagaaGreatDoorB08
import Derived.Test.YteioennfpkoagaaGreatDoorB06
import Derived.Test.YteioennfpkoagaaGreatDoorB05
import Derived.Test.YteioennfpkoagaaGreatDoorB04
import Derived.Test.YteioennfpkoagaaGreatDoorB07
namespace Go.Proofs.YteioennfpkoagaaGreatDoor.C
open Go.RowKit K
attribute [local go_sem ↓] Go.wp_at_zero Go.wp_at_succ

theorem plan_see {w : World} {B : Nat} {v : Value} {l : List Int} (h : w.ownsRow B 3 1 v l.length (intsC l)) : PlanV w v l := by
  rcases own_form h with ⟨h0, rfl⟩ | ⟨g, cap, rfl, _⟩
  · have : l = [] := List.eq_nil_of_length_eq_zero h0
    subst this
    exact ⟨_, _, rfl, fun i hi => absurd hi (by simp)⟩
  · refine ⟨some ⟨g, 0, none⟩, cap, rfl, fun i hi => ⟨g, 0, rfl, ?_⟩⟩
    rw [Nat.zero_add, World.ownsRow.cellAt h _ (by omega)]
    simp [intsC, List.getElem?_eq_getElem hi]
theorem plan_mem (ps : List PartD) (n : Nat) (hpl : ps.length ≤ 8) : ∀ x ∈ (planN ps n).1, -10000 ≤ x ∧ x ≤ 10000 := by
  intro x hx
  obtain ⟨i, hi, rfl⟩ := List.getElem_of_mem hx
  have hl := (planN_len ps n).1
  have h1 := plan_at ps n i (by omega)
  have h2 := tick_in ps i
  simp only [List.getD, List.getElem?_eq_getElem hi, Option.getD_some] at h1
  rw [h1]; omega
def imgF (D : ManD) : List UInt8 := imgL D (planF D)
set_option maxRecDepth 100000 in
set_option maxHeartbeats 4000000 in
theorem compile_any (f : Int) (ps : List PartD) (cs : List ChanD) (pv cv : Value) (w : World) (hp : PartsV w pv ps) (hpc : PartsC w pv ps.length) (hc : ChansV w cv cs) (hcc : capV cv) (hn : ps.length ≤ 1048576) (hm : cs.length ≤ 1048576) (hr : ∀ i (hi : i < ps.length), ps[i].regs.length ≤ 1048576) :
    Calls Tryz.prog 23 #[.agg #[.int .i64 f, pv, cv]] w fun e w' => (¬ checkF ⟨f, ps, cs⟩ = 0 ∧ e = .returned (.tuple #[.string ⟨#[]⟩, .int .i64 (checkF ⟨f, ps, cs⟩)]) ∧ Below w.heap.size w w') ∨ (checkF ⟨f, ps, cs⟩ = 0 ∧ Below w.heap.size w w' ∧ e = .returned (.tuple #[.string (ba (imgF ⟨f, ps, cs⟩)), .int .i64 0])) := by
  have HP : Hid _ := hp
  have HPC : Hid _ := hpc
  have HC : Hid _ := hc
  have HCC : Hid _ := hcc
  have HR : Hid _ := hr
  clear hpc hcc hr
  obtain ⟨va, cap, rfl, hx⟩ := hp
  clear hx
  obtain ⟨ca, ck, rfl, hx⟩ := hc
  clear hx
  have b0 := newB w (.cells #[.int .i64 f, .slice va ps.length cap, .slice ca cs.length ck] 34)
  have h0 := heap_new w (.cells #[.int .i64 f, .slice va ps.length cap, .slice ca cs.length ck] 34)
  go_enter Tryz.func23, Tryz.ntmps23
  go_wp2_with fail
  generalize w.alloc (.cells #[.int .i64 f, .slice va ps.length cap, .slice ca cs.length ck] 34) = W0 at *
  refine Calls.mono (manCheck_any f ps cs _ _ W0 (PartsV.below HP.out b0) (PartsC.below HP.out HPC.out b0) (ChansV.below HC.out b0) HCC.out (by omega) (fun k hk => by have := HR.out k hk; omega) (by omega)) ?_
  rintro e w2 ⟨rfl, hb2⟩
  have m2 := keepN h0 hb2
  have y0 : w2.cell? ⟨w.heap.size, 0, none⟩ = some (.int .i64 f) := by rw [cell_of_blk m2]; rfl
  have y1 : w2.cell? ⟨w.heap.size, 1, none⟩ = some (.slice va ps.length cap) := by rw [cell_of_blk m2]; rfl
  have y2 : w2.cell? ⟨w.heap.size, 2, none⟩ = some (.slice ca cs.length ck) := by rw [cell_of_blk m2]; rfl
  have bw2 := b0.trans (hb2.mono b0.size)
  clear h0 m2 b0 hb2
  by_cases hz : checkF ⟨f, ps, cs⟩ = 0
  · obtain ⟨hT, hS⟩ := check_fit hz
    have hf := check_ok hz
    simp only [] at hT hS
    have hf1 : 1 ≤ f := hf.1
    have hf2 : f ≤ 240 := hf.2.1
    have hpl : ps.length ≤ 8 := hf.2.2.1
    have hcl : cs.length ≤ 8 := hf.2.2.2.1
    have HRL : Hid (∀ x ∈ ps, x.regs.length ≤ 4) := fun x hx => by
      obtain ⟨i, hi, rfl⟩ := List.getElem_of_mem hx
      exact (hf.2.2.2.2.1 i hi).1
    have HT : Hid _ := hT
    have HS : Hid _ := hS
    have HZ : Hid _ := hz
    clear hf hT hS
    obtain ⟨n, rfl⟩ : ∃ n : Nat, f = n := ⟨f.toNat, by omega⟩
    rw [hz]
    clear hz
    go_wp2_with fail
    go_region_held3 (fun w' => w'.cell? ⟨w.heap.size, 0, none⟩ = some (.int .i64 n) ∧ w'.cell? ⟨w.heap.size, 1, none⟩ = some (.slice va ps.length cap) ∧ w'.cell? ⟨w.heap.size, 2, none⟩ = some (.slice ca cs.length ck) ∧ Below w.heap.size w w') (first | with_reducible assumption | exact ⟨y0, y1, y2, bw2.drew⟩ | with_reducible exact keep3 (by assumption) hb3 (Nat.le_refl _) | with_reducible exact keep3 (by assumption) hb4 (Nat.le_refl _)) ((first
      | (go_at_call 56
         refine (plan_any n ps _ _ _ (PartsV.below HP.out (by first | exact bw2.drew | exact bw2 | exact (‹World.cell? _ ⟨w.heap.size, 0, none⟩ = _ ∧ _ ∧ _ ∧ Below w.heap.size w _›).2.2.2)) ⟨_, _, _, rfl⟩ HT.out HS.out (by omega) hpl).mono ?_
         rintro e w3 ⟨v, rfl, hown, hb3⟩
         have hq := plan_see (l := (planN ps n).1) (by rw [(planN_len ps n).1]; exact hown)
         have hb30 : Below w.heap.size w w3 := by
           first | exact bw2.drew.trans (hb3.mono bw2.drew.size) | exact bw2.trans (hb3.mono bw2.size) | exact (‹World.cell? _ ⟨w.heap.size, 0, none⟩ = _ ∧ _ ∧ _ ∧ Below w.heap.size w _›).2.2.2.trans (hb3.mono (‹World.cell? _ ⟨w.heap.size, 0, none⟩ = _ ∧ _ ∧ _ ∧ Below w.heap.size w _›).2.2.2.size)
         clear hown)
      | (go_at_call 63
         refine (write_any _ n _ _ _ ⟨n, ps, cs⟩ (planN ps n).1 (PartsV.below HP.out hb30) (ChansV.below HC.out hb30) hq hpl hcl HRL.out (by rw [(planN_len ps n).1]; omega) (plan_mem ps n hpl)).mono ?_
         rintro e w4 ⟨rfl, hb4⟩)))
    all_goals (have hS := ‹World.cell? _ ⟨w.heap.size, 0, none⟩ = _ ∧ _ ∧ _ ∧ Below w.heap.size w _›)
    all_goals (go_wp2_with fail)
    all_goals go_ret2
    all_goals exact .inr ⟨HZ.out, hb30.trans (hb4.mono hb30.size), rfl⟩
  · have HZ : Hid _ := hz
    go_wp2_with fail
    go_ret2
    exact .inl ⟨HZ.out, rfl, bw2⟩
end Go.Proofs.YteioennfpkoagaaGreatDoor.C
namespace Go.Proofs.YteioennfpkoagaaGreatDoor.C
open Go.RowKit K

def inR (x : Int) : Prop := -9223372036854775808 ≤ x ∧ x ≤ 9223372036854775807
def stV (s : StD) : Value := .agg #[.bool s.stopped, .int .i64 s.faults, .int .i64 s.restarts]
def bigK : Nat := 4611686018427387904
end Go.Proofs.YteioennfpkoagaaGreatDoor.C
namespace Go.Proofs.YteioennfpkoagaaGreatDoor.C
open Go.RowKit K

/- an image read, number by number -/
def numI : List UInt8 → Nat × List UInt8
  | [] => (0, [])
  | b :: l => (b.toNat, l)
def readN {α : Type} (f : List UInt8 → α × List UInt8) : Nat → List UInt8 → List α × List UInt8
  | 0, l => ([], l)
  | n + 1, l => ((f l).1 :: (readN f n (f l).2).1, (readN f n (f l).2).2)
def listI {α : Type} (f : List UInt8 → α × List UInt8) (l : List UInt8) : List α × List UInt8 := readN f (numI l).1 (numI l).2
def tickI (l : List UInt8) : Int × List UInt8 := (((numI l).1 : Int) - 1, (numI l).2)
def planI (l : List UInt8) : List Int × List UInt8 := listI tickI l
def regI (l : List UInt8) : RegD × List UInt8 :=
  (⟨(numI l).1, (numI (numI l).2).1, (numI (numI (numI l).2).2).1⟩, (numI (numI (numI l).2).2).2)
def regsI (l : List UInt8) : List RegD × List UInt8 := listI regI l
def noName : ByteArray := ⟨#[]⟩
def partI (l : List UInt8) : PartD × List UInt8 := (⟨noName, 0, 0, (numI l).1, (regsI (numI l).2).1⟩, (regsI (numI l).2).2)
def partsI (l : List UInt8) : List PartD × List UInt8 := listI partI l
def chanI (l : List UInt8) : ChanD × List UInt8 :=
  let l1 := (numI l).2
  let l2 := (numI l1).2
  let l3 := (numI l2).2
  let l4 := (numI l3).2
  (⟨noName, (numI l).1, (numI l1).1, (numI l2).1, (numI l3).1, (numI l4).1⟩, (numI l4).2)
def chansI (l : List UInt8) : List ChanD × List UInt8 := listI chanI l
/- what is read of an image: the plan, the partitions, the channels, and what is left -/
def r1 (l : List UInt8) := planI (numI l).2
def r2 (l : List UInt8) := partsI (r1 l).2
def r3 (l : List UInt8) := chansI (r2 l).2

theorem num_suf (l : List UInt8) : ∃ x, l = x ++ (numI l).2 := by
  cases l with
  | nil => exact ⟨[], rfl⟩
  | cons b l => exact ⟨[b], rfl⟩
/- a reader: it goes on to the right, and what it reads hangs on no more than what it takes -/
structure Rdr {α : Type} (f : List UInt8 → α × List UInt8) : Prop where
  nil : (f []).2 = []
  suf : ∀ l, ∃ x, l = x ++ (f l).2
  more : ∀ l x, (f l).2 ≠ [] → f (l ++ x) = ((f l).1, (f l).2 ++ x)
theorem rdr_num : Rdr numI where
  nil := rfl
  suf := num_suf
  more l x h := by
    cases l with
    | nil => exact absurd rfl h
    | cons b l => rfl
theorem Rdr.ne {α : Type} {f : List UInt8 → α × List UInt8} (h : Rdr f) {l : List UInt8} (hl : (f l).2 ≠ []) : l ≠ [] := fun e => hl (by rw [e]; exact h.nil)
theorem rdr_readN {α : Type} {f : List UInt8 → α × List UInt8} (h : Rdr f) : ∀ n, Rdr (readN f n)
  | 0 => ⟨rfl, fun l => ⟨[], rfl⟩, fun l x _ => rfl⟩
  | n + 1 => by
    have ih := rdr_readN h n
    refine ⟨?_, fun l => ?_, fun l x hl => ?_⟩
    · show (readN f n (f []).2).2 = []
      rw [h.nil]; exact ih.nil
    · obtain ⟨x, hx⟩ := h.suf l
      obtain ⟨y, hy⟩ := ih.suf (f l).2
      refine ⟨x ++ y, ?_⟩
      show l = x ++ y ++ (readN f n (f l).2).2
      rw [List.append_assoc, ← hy, ← hx]
    · have h2 : (readN f n (f l).2).2 ≠ [] := hl
      have h1 : (f l).2 ≠ [] := ih.ne h2
      have e1 := h.more l x h1
      have e2 := ih.more (f l).2 x h2
      show ((f (l ++ x)).1 :: (readN f n (f (l ++ x)).2).1, (readN f n (f (l ++ x)).2).2) = _
      rw [e1]
      simp only []
      rw [e2]
      rfl
theorem rdr_then {α β γ : Type} {f : List UInt8 → α × List UInt8} (hf : Rdr f) {g : α → List UInt8 → β × List UInt8} (hg : ∀ a, Rdr (g a)) (c : α → β → γ) :
    Rdr fun l => (c (f l).1 (g (f l).1 (f l).2).1, (g (f l).1 (f l).2).2) := by
  refine ⟨?_, fun l => ?_, fun l x hl => ?_⟩
  · show (g (f []).1 (f []).2).2 = []
    rw [hf.nil]; exact (hg _).nil
  · obtain ⟨x, hx⟩ := hf.suf l
    obtain ⟨y, hy⟩ := (hg (f l).1).suf (f l).2
    refine ⟨x ++ y, ?_⟩
    show l = x ++ y ++ (g (f l).1 (f l).2).2
    rw [List.append_assoc, ← hy, ← hx]
  · have h2 : (g (f l).1 (f l).2).2 ≠ [] := hl
    have h1 : (f l).2 ≠ [] := (hg _).ne h2
    have e1 := hf.more l x h1
    have e2 := (hg (f l).1).more (f l).2 x h2
    show (c (f (l ++ x)).1 (g (f (l ++ x)).1 (f (l ++ x)).2).1, (g (f (l ++ x)).1 (f (l ++ x)).2).2) = _
    rw [e1]
    simp only []
    rw [e2]
theorem rdr_map {α β : Type} {f : List UInt8 → α × List UInt8} (hf : Rdr f) (c : α → β) : Rdr fun l => (c (f l).1, (f l).2) := by
  refine ⟨hf.nil, hf.suf, fun l x hl => ?_⟩
  show (c (f (l ++ x)).1, (f (l ++ x)).2) = _
  rw [hf.more l x hl]
theorem rdr_list {α : Type} {f : List UInt8 → α × List UInt8} (h : Rdr f) : Rdr (listI f) :=
  rdr_then rdr_num (g := fun n => readN f n) (fun n => rdr_readN h n) (fun _ b => b)
theorem rdr_tick : Rdr tickI := rdr_map rdr_num (fun n : Nat => (n : Int) - 1)
theorem rdr_plan : Rdr planI := rdr_list rdr_tick
theorem rdr_reg : Rdr regI :=
  rdr_then (f := fun l => numI l) rdr_num (g := fun _ l => (((numI l).1, (numI (numI l).2).1), (numI (numI l).2).2)) (fun _ => rdr_then rdr_num (g := fun _ => numI) (fun _ => rdr_num) Prod.mk) (fun (a : Nat) (b : Nat × Nat) => (⟨a, b.1, b.2⟩ : RegD))
theorem rdr_regs : Rdr regsI := rdr_list rdr_reg
theorem rdr_part : Rdr partI :=
  rdr_then rdr_num (g := fun _ => regsI) (fun _ => rdr_regs) (fun (a : Nat) (b : List RegD) => (⟨noName, 0, 0, a, b⟩ : PartD))
theorem rdr_parts : Rdr partsI := rdr_list rdr_part
theorem rdr_two : Rdr fun l => (((numI l).1, (numI (numI l).2).1), (numI (numI l).2).2) := rdr_then rdr_num (g := fun _ => numI) (fun _ => rdr_num) Prod.mk
theorem rdr_chan : Rdr chanI :=
  rdr_then (f := fun l => (((numI l).1, (numI (numI l).2).1), (numI (numI l).2).2)) rdr_two
    (g := fun _ l => ((((numI l).1, (numI (numI l).2).1), (numI (numI (numI l).2).2).1), (numI (numI (numI l).2).2).2))
    (fun _ => rdr_then (f := fun l => (((numI l).1, (numI (numI l).2).1), (numI (numI l).2).2)) rdr_two (g := fun _ => numI) (fun _ => rdr_num) Prod.mk)
    (fun (a : Nat × Nat) (b : (Nat × Nat) × Nat) => (⟨noName, a.1, a.2, b.1.1, b.1.2, b.2⟩ : ChanD))
theorem rdr_chans : Rdr chansI := rdr_list rdr_chan
theorem rdr_r1 : Rdr r1 := rdr_then rdr_num (g := fun _ => planI) (fun _ => rdr_plan) (fun _ b => b)
theorem rdr_r2 : Rdr r2 := rdr_then rdr_r1 (g := fun _ => partsI) (fun _ => rdr_parts) (fun _ b => b)
theorem rdr_r3 : Rdr r3 := rdr_then rdr_r2 (g := fun _ => chansI) (fun _ => rdr_chans) (fun _ b => b)

/- what is put in the place of what an image leaves out -/
def someN (i : Nat) : ByteArray := ba (110 :: decF i)
def countP (pl : List Int) (i : Nat) : Int := ((pl.filter fun x => x == (i : Int)).length : Nat)
def wholeP (f : Int) (pl : List Int) (i : Nat) (x : PartD) : PartD := ⟨someN i, f, countP pl i, x.action, x.regs⟩
def wholeC (i : Nat) (x : ChanD) : ChanD := ⟨someN i, x.source, x.target, x.kind, x.size, x.depth⟩
def wholeM (pl : List Int) (ps : List PartD) (cs : List ChanD) : ManD := ⟨pl.length, ps.mapIdx (wholeP pl.length pl), cs.mapIdx wholeC⟩
def strange (pl : List Int) (n : Nat) : Bool := pl.any fun x => decide ((n : Int) ≤ x)
def rightB (pl : List Int) (ps : List PartD) (cs : List ChanD) : Bool := !strange pl ps.length && decide (checkF (wholeM pl ps cs) = 0)
def usedI (l : List UInt8) : List UInt8 := l.take (l.length - (r3 l).2.length)
def atSumB (l : List UInt8) : Bool := decide (l = sealL (usedI l))
def accL (l : List UInt8) : Bool := decide ((numI l).1 = 255) && (atSumB l && rightB (r1 l).1 (r2 l).1 (r3 l).1)
def accF (s : ByteArray) : Bool := accL s.data.toList
theorem accF_ba (l : List UInt8) : accF (ba l) = accL l := by unfold accF; rw [mk_data]
theorem accL_seal {l : List UInt8} (h : accL l = true) : l = sealL (usedI l) := by
  unfold accL atSumB at h
  simp only [Bool.and_eq_true, decide_eq_true_eq] at h
  exact h.2.1
theorem accF_syn (l : List UInt8) (hs : synL l ≠ 0#32) : accF (ba l) = false := by
  rw [accF_ba]
  cases h : accL l
  · rfl
  · exact absurd (by rw [accL_seal h]; exact synL_seal _) hs
theorem used_app (l : List UInt8) : l = usedI l ++ (r3 l).2 := by
  obtain ⟨x, hx⟩ := rdr_r3.suf l
  have hl : l.length = x.length + (r3 l).2.length := by
    have := congrArg List.length hx
    rw [List.length_append] at this
    exact this
  have : usedI l = x := by
    unfold usedI
    rw [hl, Nat.add_sub_cancel]
    conv => lhs; rw [hx]
    rw [List.take_left]
  rw [this]
  exact hx
theorem rest_four {l : List UInt8} (h : accL l = true) : (r3 l).2.length = 4 := by
  have h1 := congrArg List.length (accL_seal h)
  have h2 := congrArg List.length (used_app l)
  rw [sealL_len] at h1
  rw [List.length_append] at h2
  omega
/- none begins another -/
theorem acc_cut {l : List UInt8} {k : Nat} (h : accL l = true) (hk : k < l.length) : accL (l.take k) = false := by
  cases h2 : accL (l.take k)
  · rfl
  · exfalso
    have e1 := rest_four h
    have e2 := rest_four h2
    have h3 := rdr_r3.more (l.take k) (l.drop k) (by intro e; rw [e] at e2; cases e2)
    rw [List.take_append_drop] at h3
    rw [h3] at e1
    simp only [List.length_append, List.length_drop] at e1
    omega
end Go.Proofs.YteioennfpkoagaaGreatDoor.C
namespace Go.Proofs.YteioennfpkoagaaGreatDoor.C
open Go.RowKit K
attribute [local go_sem ↓] Go.wp_at_zero Go.wp_at_succ

/- a reader of an image: what is left to be read -/
def RD (w : World) (rb : Nat) (s : ByteArray) (l : List UInt8) : Prop :=
  ∃ k : Nat, k ≤ s.size ∧ s.data.toList.drop k = l ∧ w.heap[rb]? = some (.cells #[.string s, .int .i64 k] 270)
def isB (b : Nat) : Nat → Prop := fun x => x = b
theorem RD.keep {w w' : World} {rb : Nat} {s : ByteArray} {l : List UInt8} (h : RD w rb s l) (hk : w'.heap[rb]? = w.heap[rb]?) : RD w' rb s l := by
  obtain ⟨k, h1, h2, h3⟩ := h
  exact ⟨k, h1, h2, hk.trans h3⟩
theorem RD.lt {w : World} {rb : Nat} {s : ByteArray} {l : List UInt8} (h : RD w rb s l) : rb < w.heap.size := by
  obtain ⟨k, h1, h2, h3⟩ := h
  exact lt_of_blk h3
theorem owns_keep {w w' : World} {B e s n : Nat} {v : Value} {xs : List Value} (h : w.ownsRow B e s v n xs) (hk : ∀ b, v.ownBlock = some b → w'.heap[b]? = w.heap[b]?) : w'.ownsRow B e s v n xs := by
  obtain ⟨h1, h2⟩ := h
  refine ⟨h1, ?_⟩
  rcases h2 with h2 | ⟨g, cap, cur, rfl, h3, h4, h5⟩
  · exact .inl h2
  · exact .inr ⟨g, cap, cur, rfl, h3, (hk g rfl).trans h4, h5⟩
theorem num_lt (l : List UInt8) : (numI l).1 ≤ 255 := by
  cases l with
  | nil => simp [numI]
  | cons b l => have := b.toNat_lt; simp only [numI]; omega
set_option maxRecDepth 100000 in
set_option maxHeartbeats 1000000 in
theorem number_any (w : World) (rb : Nat) (s : ByteArray) (l : List UInt8) (hs : s.size ≤ 9223372036854775807) (h : RD w rb s l) :
    Calls Tryz.prog 184 #[.pointer (some ⟨rb, 0, none⟩)] w fun e w' => e = .returned (.int .i64 (numI l).1) ∧ RD w' rb s (numI l).2 ∧ Frm (isB rb) w w' := by
  obtain ⟨k, hk, rfl, hb⟩ := h
  have HB : Hid _ := hb
  have y0 : w.cell? ⟨rb, 0, none⟩ = some (.string s) := by rw [cell_of_blk hb]; rfl
  have y1 : w.cell? ⟨rb, 1, none⟩ = some (.int .i64 k) := by rw [cell_of_blk hb]; rfl
  have f1 : w.frozen? ⟨rb, 1, none⟩ = false := frozen_of_blk hb
  clear hb
  by_cases hlt : k < s.size
  · have hne : ¬ (k : Int) = (s.size : Int) := by omega
    have hlt' : (k : Int) < (s.size : Int) := by omega
    have hk0 : (0 : Int) ≤ (k : Int) := by omega
    have HD : Hid (s.data.toList.drop k = s[k] :: s.data.toList.drop (k + 1)) := drop_cons s k hlt
    have hby := (s[k]).toNat_lt
    have hwr : wrap64 ((s[k]).toNat : Int) = (s[k]).toNat := by
      unfold wrap64
      omega
    go_enter Tryz.func184, Tryz.ntmps184
    go_wp2_with fail
    go_quiet (fail)
    go_wp2_with fail
    go_quiet (fail)
    go_wp2_with fail
    go_ret
    refine ⟨?_, ?_, ?_⟩
    · rw [HD.out]; rfl
    · rw [HD.out]
      exact ⟨k + 1, by omega, rfl, by rw [blk_set (w := w.drewN _) 1 _ HB.out]; rfl⟩
    · exact Frm.set (o := isB rb) (Frm.all _ (below_drewN (Below.refl _ _) _)) (.inl (rfl : isB rb rb)) _ _
  · have he : k = s.size := by omega
    have he2 : (k : Int) = (s.size : Int) := by omega
    have HD : Hid (s.data.toList.drop k = []) := by
      show _ = _
      rw [List.drop_eq_nil_iff]; simp; omega
    go_enter Tryz.func184, Tryz.ntmps184
    go_wp2_with fail
    go_quiet (fail)
    go_wp2_with fail
    go_ret
    refine ⟨by rw [HD.out]; rfl, by rw [HD.out]; exact ⟨k, hk, HD.out, HB.out⟩, Frm.all _ (below_drewN (Below.refl _ _) _)⟩
end Go.Proofs.YteioennfpkoagaaGreatDoor.C
namespace Go.Proofs.YteioennfpkoagaaGreatDoor.C
open Go.RowKit K

/- what a block of a kernel is for -/
inductive Role where
  | fix
  | ker
  | part (i : Nat)
  | mem (i j : Nat)
  | chan (c : Nat)
  | msg (c : Nat)
/- where a kernel lies -/
structure Lay where
  kb : Nat
  pv : Value
  ptv : Value
  chv : Value
  pb : Nat → Nat
  cb : Nat → Nat
  rv : Nat → Value
  fv : Nat → Value
  rb : Nat → Nat → Nat
  mb : Nat → Nat → Nat
  mc : Nat → Nat → Nat
  rl : Nat → Option Role
/- a row that is only read -/
def RowF (w : World) (P : Nat → Prop) (v : Value) (n : Nat) (f : Nat → Value) : Prop :=
  ∃ va cap, v = .slice va n cap ∧ ∀ i, i < n → ∃ g, va = some ⟨g, 0, none⟩ ∧ P g ∧ w.cell? ⟨g, i, none⟩ = some (f i)
theorem cell_same {w w' : World} {b i : Nat} (h : w'.heap[b]? = w.heap[b]?) : w'.cell? ⟨b, i, none⟩ = w.cell? ⟨b, i, none⟩ := by
  simp [World.cell?, h]
theorem RowF.keep {w w' : World} {P : Nat → Prop} {v : Value} {n : Nat} {f : Nat → Value} (h : RowF w P v n f) (hk : ∀ b, P b → w'.heap[b]? = w.heap[b]?) : RowF w' P v n f := by
  obtain ⟨va, cap, e, hc⟩ := h
  refine ⟨va, cap, e, fun i hi => ?_⟩
  obtain ⟨g, e1, hp, hcell⟩ := hc i hi
  exact ⟨g, e1, hp, (cell_same (hk g hp)).trans hcell⟩
theorem RowF.keep2 {w w' : World} {P : Nat → Prop} {v : Value} {n : Nat} {f : Nat → Value} (h : RowF w P v n f) (hk : ∀ b, P b → b < w.heap.size → w'.heap[b]? = w.heap[b]?) : RowF w' P v n f := by
  obtain ⟨va, cap, e, hc⟩ := h
  refine ⟨va, cap, e, fun i hi => ?_⟩
  obtain ⟨g, e1, hp, hcell⟩ := hc i hi
  exact ⟨g, e1, hp, (cell_same (hk g hp (World.block_lt_of_cell? w _ hcell))).trans hcell⟩
theorem RowF.mono {w : World} {P Q : Nat → Prop} {v : Value} {n : Nat} {f : Nat → Value} (h : RowF w P v n f) (hk : ∀ b, P b → Q b) : RowF w Q v n f := by
  obtain ⟨va, cap, e, hc⟩ := h
  refine ⟨va, cap, e, fun i hi => ?_⟩
  obtain ⟨g, e1, hp, hcell⟩ := hc i hi
  exact ⟨g, e1, hk g hp, hcell⟩
def ptrV (b : Nat) : Value := .pointer (some ⟨b, 0, none⟩)
def Lay.fix (L : Lay) (b : Nat) : Prop := L.rl b = some .fix
/- what is done when a partition fails -/
def ReactV (w : World) (L : Lay) (cs : List ChanD) (i : Nat) (x : PartD) : Prop :=
  (x.action = 1 ∧ L.fv i = .func (Fn.func 234) #[] #[]) ∨
  (x.action = 2 ∧ ∃ b, L.fix b ∧ L.fv i = .func (Fn.func 231) #[] #[ptrV b] ∧ w.heap[b]? = some (.cells #[ptrV (L.pb i)] 137)) ∨
  (x.action = 3 ∧ ∃ b c iv n, ∃ g : Nat → Nat, L.fix b ∧ L.fix c ∧ L.fv i = .func (Fn.func 232) #[] #[ptrV b, ptrV c] ∧ w.heap[b]? = some (.cells #[ptrV (L.pb i)] 137) ∧ w.heap[c]? = some (.cells #[iv] 139) ∧
    RowF w L.fix iv n (fun k => ptrV (L.cb (g k))) ∧ (∀ k, k < n → ∃ y, cs[g k]? = some y ∧ y.target = (i : Int)) ∧ (∀ d y, cs[d]? = some y → y.target = (i : Int) → ∃ k, k < n ∧ g k = d) ∧ n ≤ 255)
/- the messages that wait in a channel -/
def MsgV (w : World) (P : Nat → Prop) (v : Value) (t : ByteArray) : Prop :=
  ∃ b cap arr fr, v = .slice (some ⟨b, 0, none⟩) t.size cap ∧ P b ∧ w.heap[b]? = some (.cells arr 5 fr) ∧ ∀ k (h : k < t.size), arr[k]? = some (.int .u8 t[k].toNat)
def MsgsV (w : World) (L : Lay) (c : Nat) (mv : Value) (ms : List MsgD) : Prop :=
  ∃ vs : List Value, vs.length = ms.length ∧ w.ownsRow 0 63 1 mv ms.length vs ∧ (∀ b, mv.ownBlock = some b → L.rl b = some (.msg c)) ∧
    ∀ k (h : k < ms.length), ∃ v, vs[k]? = some v ∧ MsgV w (fun b => L.rl b = some (.msg c)) v ms[k].text
def AgeOK (S : KS) (y : ChanD) (c : Nat) (age : Int) : Prop :=
  0 ≤ age ∧ age ≤ y.depth + 1 ∧ (y.kind ≠ 1 → (S.chs c).length ≤ 1 ∧ ∀ m ∈ S.chs c, m.time ≤ S.time ∧ age = if (S.time : Int) - m.time ≤ y.depth then (S.time : Int) - m.time else y.depth + 1)
def partB (L : Lay) (i : Nat) (s : StD) : Array Value := #[.bool s.stopped, .int .i64 s.faults, .int .i64 s.restarts, L.rv i, L.fv i]
def chanB (y : ChanD) (mv : Value) (age : Int) : Array Value := #[.int .i64 y.source, .int .i64 y.target, .bool (decide (y.kind = 1)), .int .i64 y.size, .int .i64 y.depth, mv, .int .i64 age]
def regB2 (L : Lay) (i j : Nat) (r : RegD) : Array Value := #[.int .i64 (64 * r.page), .slice (some ⟨L.mb i j, 0, none⟩) (64 * r.pages).toNat (L.mc i j), .bool (decide (r.rights = 2))]
/- all but the channels' blocks; tm is the time that the kernel's own block tells -/
structure KVs (w : World) (L : Lay) (pl : List Int) (ps : List PartD) (cs : List ChanD) (S : KS) (tm : Nat) : Prop where
  low : ∀ b, L.rl b ≠ none → b < w.heap.size
  kro : L.rl L.kb = some .ker
  kerB : w.heap[L.kb]? = some (.cells #[L.pv, .int .i64 ((tm % pl.length : Nat) : Int), L.ptv, L.chv] 141)
  plan : RowF w L.fix L.pv pl.length fun t => .int .i64 (pl.getD t 0)
  parts : RowF w L.fix L.ptv ps.length fun i => ptrV (L.pb i)
  chans : RowF w L.fix L.chv cs.length fun c => ptrV (L.cb c)
  part : ∀ i x, ps[i]? = some x → L.rl (L.pb i) = some (.part i) ∧ w.heap[L.pb i]? = some (.cells (partB L i (S.sts i)) 136)
  regs : ∀ i x, ps[i]? = some x → RowF w L.fix (L.rv i) x.regs.length fun j => ptrV (L.rb i j)
  reg : ∀ i x, ps[i]? = some x → ∀ j r, x.regs[j]? = some r → L.fix (L.rb i j) ∧ w.heap[L.rb i j]? = some (.cells (regB2 L i j r) 147) ∧ L.rl (L.mb i j) = some (.mem i j) ∧ (64 * r.pages).toNat ≤ L.mc i j
  mem : ∀ i x, ps[i]? = some x → ∀ j r, x.regs[j]? = some r → ∃ arr, w.heap[L.mb i j]? = some (.cells arr 5) ∧ ∀ k : Nat, (k : Int) < 64 * r.pages → arr[k]? = some (.int .u8 (S.mem i (64 * r.page + k))) ∧ 0 ≤ S.mem i (64 * r.page + k) ∧ S.mem i (64 * r.page + k) ≤ 255
  react : ∀ i x, ps[i]? = some x → ReactV w L cs i x
/- a channel's blocks -/
def ChV (w : World) (L : Lay) (cs : List ChanD) (S : KS) (c : Nat) : Prop := ∀ y, cs[c]? = some y →
  ∃ mv age, L.rl (L.cb c) = some (.chan c) ∧ w.heap[L.cb c]? = some (.cells (chanB y mv age) 153) ∧ MsgsV w L c mv (S.chs c) ∧ AgeOK S y c age ∧ (∀ m ∈ S.chs c, (m.text.size : Int) ≤ y.size) ∧ ((S.chs c).length : Int) ≤ y.depth
structure KVi (w : World) (L : Lay) (pl : List Int) (ps : List PartD) (cs : List ChanD) (S : KS) : Prop where
  s : KVs w L pl ps cs S S.time
  chan : ∀ c, ChV w L cs S c

theorem fix_keep {L : Lay} {w w' : World} (h : ∀ b, L.rl b ≠ none → w'.heap[b]? = w.heap[b]?) : ∀ b, L.fix b → w'.heap[b]? = w.heap[b]? := fun b hb => h b (by unfold Lay.fix at hb; rw [hb]; simp)
theorem ReactV.keep {w w' : World} {L : Lay} {cs : List ChanD} {i : Nat} {x : PartD} (h : ReactV w L cs i x) (hk : ∀ b, L.fix b → w'.heap[b]? = w.heap[b]?) : ReactV w' L cs i x := by
  rcases h with h | ⟨h1, b, h2, h3, h4⟩ | ⟨h1, b, c, iv, n, g, h2, h3, h4, h5, h6, h7, h8⟩
  · exact .inl h
  · exact .inr (.inl ⟨h1, b, h2, h3, (hk b h2).trans h4⟩)
  · exact .inr (.inr ⟨h1, b, c, iv, n, g, h2, h3, h4, (hk b h2).trans h5, (hk c h3).trans h6, h7.keep hk, h8⟩)
theorem MsgV.keep {w w' : World} {P : Nat → Prop} {v : Value} {t : ByteArray} (h : MsgV w P v t) (hk : ∀ b, P b → w'.heap[b]? = w.heap[b]?) : MsgV w' P v t := by
  obtain ⟨b, cap, arr, fr, h1, h2, h3, h4⟩ := h
  exact ⟨b, cap, arr, fr, h1, h2, (hk b h2).trans h3, h4⟩
theorem MsgsV.keep {w w' : World} {L : Lay} {c : Nat} {mv : Value} {ms : List MsgD} (h : MsgsV w L c mv ms) (hk : ∀ b, L.rl b = some (.msg c) → w'.heap[b]? = w.heap[b]?) : MsgsV w' L c mv ms := by
  obtain ⟨vs, h1, h2, h3, h4⟩ := h
  refine ⟨vs, h1, owns_keep h2 fun b hb => hk b (h3 b hb), h3, fun k hk' => ?_⟩
  obtain ⟨v, h5, h6⟩ := h4 k hk'
  exact ⟨v, h5, h6.keep hk⟩
theorem ChV.keep {w w' : World} {L : Lay} {cs : List ChanD} {S : KS} {c : Nat} (h : ChV w L cs S c) (hk : ∀ b, L.rl b = some (.chan c) ∨ L.rl b = some (.msg c) → w'.heap[b]? = w.heap[b]?) : ChV w' L cs S c := fun y hy => by
  obtain ⟨mv, age, h1, h2, h3, h4⟩ := h y hy
  exact ⟨mv, age, h1, (hk _ (.inl h1)).trans h2, h3.keep fun b hb => hk b (.inr hb), h4⟩
theorem ChV.congr {w : World} {L : Lay} {cs : List ChanD} {S T : KS} {c : Nat} (h : ChV w L cs S c) (h1 : T.chs c = S.chs c) (h2 : T.time = S.time) : ChV w L cs T c := fun y hy => by
  obtain ⟨mv, age, h3, h4, h5, h6, h7, h8⟩ := h y hy
  refine ⟨mv, age, h3, h4, by rw [h1]; exact h5, ?_, by rw [h1]; exact h7, by rw [h1]; exact h8⟩
  unfold AgeOK at h6 ⊢
  rw [h1, h2]; exact h6
theorem rl_ne {L : Lay} {b : Nat} {r : Role} (e : L.rl b = some r) : L.rl b ≠ none := by rw [e]; simp
theorem KVs.keep {w w' : World} {L : Lay} {pl : List Int} {ps : List PartD} {cs : List ChanD} {S : KS} {tm : Nat} (h : KVs w L pl ps cs S tm) (hk : ∀ b, L.rl b ≠ none → w'.heap[b]? = w.heap[b]?) : KVs w' L pl ps cs S tm := by
  have hf := fix_keep hk
  refine ⟨fun b hb => ?_, h.kro, (hk _ (rl_ne h.kro)).trans h.kerB, h.plan.keep hf, h.parts.keep hf, h.chans.keep hf, fun i x hx => ?_, fun i x hx => (h.regs i x hx).keep hf, fun i x hx j r hr => ?_, fun i x hx j r hr => ?_, fun i x hx => (h.react i x hx).keep hf⟩
  · have h1 := h.low b hb
    have h2 := hk b hb
    rw [Array.getElem?_eq_getElem h1] at h2
    exact lt_of_blk h2
  · obtain ⟨h1, h2⟩ := h.part i x hx
    exact ⟨h1, (hk _ (rl_ne h1)).trans h2⟩
  · obtain ⟨h1, h2, h3, h4⟩ := h.reg i x hx j r hr
    exact ⟨h1, (hf _ h1).trans h2, h3, h4⟩
  · obtain ⟨arr, h1, h2⟩ := h.mem i x hx j r hr
    exact ⟨arr, (hk _ (rl_ne (h.reg i x hx j r hr).2.2.1)).trans h1, h2⟩
theorem KVi.keep {w w' : World} {L : Lay} {pl : List Int} {ps : List PartD} {cs : List ChanD} {S : KS} (h : KVi w L pl ps cs S) (hk : ∀ b, L.rl b ≠ none → w'.heap[b]? = w.heap[b]?) : KVi w' L pl ps cs S :=
  ⟨h.s.keep hk, fun c => (h.chan c).keep fun b hb => hk b (by rcases hb with e | e <;> exact rl_ne e)⟩
/- the kernel of a manifest -/
def KVd (w : World) (v : Value) (D : ManD) (S : KS) (o : Nat → Prop) : Prop :=
  checkF D = 0 ∧ ∃ L, v = ptrV L.kb ∧ (∀ b, o b ↔ L.rl b ≠ none) ∧ KVi w L (planF D) D.parts D.chans S
theorem KVd.low {w : World} {v : Value} {D : ManD} {S : KS} {o : Nat → Prop} (h : KVd w v D S o) : ∀ b, o b → b < w.heap.size := by
  obtain ⟨_, L, _, ho, hi⟩ := h
  exact fun b hb => hi.s.low b ((ho b).1 hb)
theorem KVd.keep {w w' : World} {v : Value} {D : ManD} {S : KS} {o : Nat → Prop} (h : KVd w v D S o) (hk : ∀ b, o b → w'.heap[b]? = w.heap[b]?) : KVd w' v D S o := by
  obtain ⟨h0, L, h1, ho, hi⟩ := h
  exact ⟨h0, L, h1, ho, hi.keep fun b hb => hk b ((ho b).2 hb)⟩
end Go.Proofs.YteioennfpkoagaaGreatDoor.C
namespace Go.Proofs.YteioennfpkoagaaGreatDoor.C
open Go.RowKit K

theorem blk_lt {w w' : World} {b : Nat} (h : b < w.heap.size) (e : w'.heap[b]? = w.heap[b]?) : b < w'.heap.size := by
  rw [Array.getElem?_eq_getElem h] at e
  exact lt_of_blk e
/- one block of a kernel is turned -/
theorem KVs.turn {w w' : World} {L : Lay} {pl : List Int} {ps : List PartD} {cs : List ChanD} {S T : KS} {tm tm' : Nat} (h : KVs w L pl ps cs S tm) (z : Nat) (hz : w.heap[z]? = none ∨ ∃ x, w'.heap[z]? = some x) (hnf : ¬ L.fix z)
    (hw : ∀ b, L.rl b ≠ none → b ≠ z → w'.heap[b]? = w.heap[b]?)
    (hker : w'.heap[L.kb]? = some (.cells #[L.pv, .int .i64 ((tm' % pl.length : Nat) : Int), L.ptv, L.chv] 141))
    (hpart : ∀ i x, ps[i]? = some x → w'.heap[L.pb i]? = some (.cells (partB L i (T.sts i)) 136))
    (hmem : ∀ i x, ps[i]? = some x → ∀ j r, x.regs[j]? = some r → ∃ arr, w'.heap[L.mb i j]? = some (.cells arr 5) ∧ ∀ k : Nat, (k : Int) < 64 * r.pages → arr[k]? = some (.int .u8 (T.mem i (64 * r.page + k))) ∧ 0 ≤ T.mem i (64 * r.page + k) ∧ T.mem i (64 * r.page + k) ≤ 255) :
    KVs w' L pl ps cs T tm' := by
  have hf : ∀ b, L.fix b → w'.heap[b]? = w.heap[b]? := fun b hb => hw b (by unfold Lay.fix at hb; rw [hb]; simp) (fun e => hnf (e ▸ hb))
  refine ⟨fun b hb => ?_, h.kro, hker, h.plan.keep hf, h.parts.keep hf, h.chans.keep hf, fun i x hx => ⟨(h.part i x hx).1, hpart i x hx⟩, fun i x hx => (h.regs i x hx).keep hf, fun i x hx j r hr => ?_, hmem, fun i x hx => (h.react i x hx).keep hf⟩
  · by_cases e : b = z
    · subst e
      rcases hz with h0 | ⟨x, h0⟩
      · have := h.low b hb
        rw [Array.getElem?_eq_getElem this] at h0
        cases h0
      · exact lt_of_blk h0
    · exact blk_lt (h.low b hb) (hw b hb e)
  · obtain ⟨h1, h2, h3, h4⟩ := h.reg i x hx j r hr
    exact ⟨h1, (hf _ h1).trans h2, h3, h4⟩
theorem ne_role {L : Lay} {a b : Nat} {r s : Role} (h1 : L.rl a = some r) (h2 : L.rl b = some s) (h : r ≠ s) : a ≠ b := fun e => by
  subst e
  rw [h1] at h2
  exact h (Option.some.inj h2)
section
variable {w w' : World} {L : Lay} {pl : List Int} {ps : List PartD} {cs : List ChanD} {S : KS} {tm : Nat}
/- a partition's own block -/
def setSt (S : KS) (i : Nat) (s : StD) : KS := { S with sts := fun q => if q = i then s else S.sts q }
theorem KVs.setPart (h : KVs w L pl ps cs S tm) {i : Nat} {x : PartD} (hx : ps[i]? = some x) (s : StD) (hw : ∀ b, L.rl b ≠ none → b ≠ L.pb i → w'.heap[b]? = w.heap[b]?) (hb : w'.heap[L.pb i]? = some (.cells (partB L i s) 136)) :
    KVs w' L pl ps cs (setSt S i s) tm := by
  have hr := (h.part i x hx).1
  refine h.turn (L.pb i) (.inr ⟨_, hb⟩) (fun e => by unfold Lay.fix at e; rw [hr] at e; cases e) hw ((hw _ (rl_ne h.kro) (ne_role h.kro hr (by simp))).trans h.kerB) (fun q y hy => ?_) (fun q y hy j r hj => ?_)
  · by_cases e : q = i
    · subst e
      show w'.heap[L.pb q]? = some (Obj.cells (partB L q (if q = q then s else S.sts q)) 136 (0, 0))
      rw [if_pos rfl]
      exact hb
    · show w'.heap[L.pb q]? = some (Obj.cells (partB L q (if q = i then s else S.sts q)) 136 (0, 0))
      rw [if_neg e]
      have hq := h.part q y hy
      exact (hw _ (rl_ne hq.1) (ne_role hq.1 hr (by simpa using e))).trans hq.2
  · obtain ⟨arr, h1, h2⟩ := h.mem q y hy j r hj
    have h3 := (h.reg q y hy j r hj).2.2.1
    exact ⟨arr, (hw _ (rl_ne h3) (ne_role h3 hr (by simp))).trans h1, h2⟩
theorem KVi.setPart (h : KVi w L pl ps cs S) {i : Nat} {x : PartD} (hx : ps[i]? = some x) (s : StD) (hw : ∀ b, L.rl b ≠ none → b ≠ L.pb i → w'.heap[b]? = w.heap[b]?) (hb : w'.heap[L.pb i]? = some (.cells (partB L i s) 136)) :
    KVi w' L pl ps cs (setSt S i s) := by
  have hr := (h.s.part i x hx).1
  refine ⟨h.s.setPart hx s hw hb, fun c => ((h.chan c).keep fun b hb => ?_).congr rfl rfl⟩
  rcases hb with e | e
  · exact hw b (rl_ne e) (ne_role e hr (by simp))
  · exact hw b (rl_ne e) (ne_role e hr (by simp))
/- the bytes of a region -/
theorem KVi.setBytes (h : KVi w L pl ps cs S) {i j : Nat} {x : PartD} {r : RegD} (hx : ps[i]? = some x) (hr : x.regs[j]? = some r) (mem' : Nat → Int → Int) (arr : Array Value)
    (hw : ∀ b, L.rl b ≠ none → b ≠ L.mb i j → w'.heap[b]? = w.heap[b]?) (hb : w'.heap[L.mb i j]? = some (.cells arr 5))
    (h1 : ∀ k : Nat, (k : Int) < 64 * r.pages → arr[k]? = some (.int .u8 (mem' i (64 * r.page + k))) ∧ 0 ≤ mem' i (64 * r.page + k) ∧ mem' i (64 * r.page + k) ≤ 255)
    (h2 : ∀ (q : Nat) (y : PartD), ps[q]? = some y → ∀ (l : Nat) (t : RegD), y.regs[l]? = some t → (q ≠ i ∨ l ≠ j) → ∀ k : Nat, (k : Int) < 64 * t.pages → mem' q (64 * t.page + k) = S.mem q (64 * t.page + k)) :
    KVi w' L pl ps cs { S with mem := mem' } := by
  have hro := (h.s.reg i x hx j r hr).2.2.1
  refine ⟨h.s.turn (L.mb i j) (.inr ⟨_, hb⟩) (fun e => by unfold Lay.fix at e; rw [hro] at e; cases e) hw ((hw _ (rl_ne h.s.kro) (ne_role h.s.kro hro (by simp))).trans h.s.kerB) (fun q y hy => ?_) (fun q y hy l t ht => ?_), fun c => ((h.chan c).keep fun b hb => ?_).congr rfl rfl⟩
  · have hq := h.s.part q y hy
    exact (hw _ (rl_ne hq.1) (ne_role hq.1 hro (by simp))).trans hq.2
  · by_cases e : q = i ∧ l = j
    · obtain ⟨rfl, rfl⟩ := e
      rw [hx] at hy
      cases hy
      rw [hr] at ht
      cases ht
      exact ⟨arr, hb, h1⟩
    · obtain ⟨arr2, h3, h4⟩ := h.s.mem q y hy l t ht
      have h5 := (h.s.reg q y hy l t ht).2.2.1
      refine ⟨arr2, (hw _ (rl_ne h5) (ne_role h5 hro (by simpa using e))).trans h3, fun k hk => ?_⟩
      have h6 := h2 q y hy l t ht (by rcases Decidable.em (q = i) with e1 | e1; exact .inr (fun e2 => e ⟨e1, e2⟩); exact .inl e1) k hk
      show arr2[k]? = some (.int .u8 (mem' q (64 * t.page + k))) ∧ 0 ≤ mem' q (64 * t.page + k) ∧ mem' q (64 * t.page + k) ≤ 255
      rw [h6]
      exact h4 k hk
  · rcases hb with e | e
    · exact hw b (rl_ne e) (ne_role e hro (by simp))
    · exact hw b (rl_ne e) (ne_role e hro (by simp))
/- what a kernel's memory tells hangs on no more than this -/
theorem KVi.congr {T : KS} (h : KVi w L pl ps cs S) (h0 : T.time = S.time) (h1 : ∀ i, T.sts i = S.sts i) (h2 : ∀ c, T.chs c = S.chs c) (h3 : ∀ (i : Nat) (x : PartD), ps[i]? = some x → ∀ (j : Nat) (r : RegD), x.regs[j]? = some r → ∀ k : Nat, (k : Int) < 64 * r.pages → T.mem i (64 * r.page + k) = S.mem i (64 * r.page + k)) : KVi w L pl ps cs T := by
  refine ⟨⟨h.s.low, h.s.kro, by rw [h0]; exact h.s.kerB, h.s.plan, h.s.parts, h.s.chans, fun i x hx => by rw [h1]; exact h.s.part i x hx, h.s.regs, h.s.reg, fun i x hx j r hr => ?_, h.s.react⟩, fun c => (h.chan c).congr (h2 c) h0⟩
  obtain ⟨arr, h4, h5⟩ := h.s.mem i x hx j r hr
  refine ⟨arr, h4, fun k hk => ?_⟩
  rw [h3 i x hx j r hr k hk]
  exact h5 k hk
/- a channel's blocks; new ones may have come -/
theorem KVs.more (h : KVs w L pl ps cs S tm) (rl' : Nat → Option Role) (hr : ∀ b, L.rl b ≠ none → rl' b = L.rl b) (hl : ∀ b, rl' b ≠ none → b < w.heap.size) : KVs w { L with rl := rl' } pl ps cs S tm := by
  have hm : ∀ {b r}, L.rl b = some r → rl' b = some r := fun {b r} e => by rw [hr b (by rw [e]; simp)]; exact e
  refine ⟨hl, hm h.kro, h.kerB, h.plan.mono fun b hb => hm hb, h.parts.mono fun b hb => hm hb, h.chans.mono fun b hb => hm hb, fun i x hx => ⟨hm (h.part i x hx).1, (h.part i x hx).2⟩, fun i x hx => (h.regs i x hx).mono fun b hb => hm hb, fun i x hx j r hj => ?_, h.mem, fun i x hx => ?_⟩
  · obtain ⟨h1, h2, h3, h4⟩ := h.reg i x hx j r hj
    exact ⟨hm h1, h2, hm h3, h4⟩
  · rcases h.react i x hx with h | ⟨h1, b, h2, h3, h4⟩ | ⟨h1, b, c, iv, n, g, h2, h3, h4, h5, h6, h7, h8⟩
    · exact .inl h
    · exact .inr (.inl ⟨h1, b, hm h2, h3, h4⟩)
    · exact .inr (.inr ⟨h1, b, c, iv, n, g, hm h2, hm h3, h4, h5, h6, h7.mono fun b hb => hm hb, h8⟩)
theorem ChV.more {c : Nat} (h : ChV w L cs S c) (rl' : Nat → Option Role) (hr : ∀ b, L.rl b ≠ none → rl' b = L.rl b) : ChV w { L with rl := rl' } cs S c := fun y hy => by
  have hm : ∀ {b r}, L.rl b = some r → rl' b = some r := fun {b r} e => by rw [hr b (by rw [e]; simp)]; exact e
  obtain ⟨mv, age, h1, h2, ⟨vs, h3, h4, h5, h6⟩, h7⟩ := h y hy
  refine ⟨mv, age, hm h1, h2, ⟨vs, h3, h4, fun b hb => hm (h5 b hb), fun k hk => ?_⟩, h7⟩
  obtain ⟨v, h8, b, cap, arr, fr, h9, h10, h11⟩ := h6 k hk
  exact ⟨v, h8, b, cap, arr, fr, h9, hm h10, h11⟩
theorem KVi.setChan (h : KVi w L pl ps cs S) {c : Nat} {y : ChanD} (hy : cs[c]? = some y) (rl' : Nat → Option Role) (hr : ∀ b, L.rl b ≠ none → rl' b = L.rl b) (hl : ∀ b, rl' b ≠ none → b < w'.heap.size)
    (hw : ∀ b, L.rl b ≠ none → b ≠ L.cb c → L.rl b ≠ some (.msg c) → w'.heap[b]? = w.heap[b]?)
    (mv : Value) (age : Int) (ms : List MsgD) (hb : w'.heap[L.cb c]? = some (.cells (chanB y mv age) 153)) (hm : MsgsV w' { L with rl := rl' } c mv ms) (ha : AgeOK (setCh S c ms) y c age) (hs : ∀ m ∈ ms, (m.text.size : Int) ≤ y.size) (hd : (ms.length : Int) ≤ y.depth) :
    KVi w' { L with rl := rl' } pl ps cs (setCh S c ms) := by
  have hro : L.rl (L.cb c) = some (.chan c) := by obtain ⟨_, _, h1, _⟩ := h.chan c y hy; exact h1
  have hfar : ∀ b r, L.rl b = some r → r ≠ .chan c → r ≠ .msg c → w'.heap[b]? = w.heap[b]? := fun b r e h1 h2 => hw b (rl_ne e) (ne_role e hro h1) (by rw [e]; simpa using h2)
  have hf : ∀ b, L.fix b → w'.heap[b]? = w.heap[b]? := fun b hb => hfar b _ hb (by simp) (by simp)
  have hk : KVs w' L pl ps cs (setCh S c ms) (setCh S c ms).time := by
    refine ⟨fun b hb => hl b (by rw [hr b hb]; exact hb), h.s.kro, (hfar _ _ h.s.kro (by simp) (by simp)).trans h.s.kerB, h.s.plan.keep hf, h.s.parts.keep hf, h.s.chans.keep hf, fun i x hx => ?_, fun i x hx => (h.s.regs i x hx).keep hf, fun i x hx j r hr => ?_, fun i x hx j r hr => ?_, fun i x hx => (h.s.react i x hx).keep hf⟩
    · obtain ⟨h1, h2⟩ := h.s.part i x hx
      exact ⟨h1, (hfar _ _ h1 (by simp) (by simp)).trans h2⟩
    · obtain ⟨h1, h2, h3, h4⟩ := h.s.reg i x hx j r hr
      exact ⟨h1, (hf _ h1).trans h2, h3, h4⟩
    · obtain ⟨arr, h1, h2⟩ := h.s.mem i x hx j r hr
      exact ⟨arr, (hfar _ _ (h.s.reg i x hx j r hr).2.2.1 (by simp) (by simp)).trans h1, h2⟩
  refine ⟨hk.more rl' hr hl, fun d => ?_⟩
  by_cases e : d = c
  · subst e
    intro y2 hy2
    rw [hy] at hy2
    cases hy2
    have e2 : (setCh S d ms).chs d = ms := by show (if d = d then ms else S.chs d) = ms; rw [if_pos rfl]
    refine ⟨mv, age, ?_, hb, by rw [e2]; exact hm, ha, by rw [e2]; exact hs, by rw [e2]; exact hd⟩
    show rl' (L.cb d) = _
    rw [hr _ (rl_ne hro)]; exact hro
  · have e2 : (setCh S c ms).chs d = S.chs d := by show (if d = c then ms else S.chs d) = S.chs d; rw [if_neg e]
    refine (ChV.more ?_ rl' hr)
    refine ((h.chan d).keep fun b hb => ?_).congr e2 rfl
    rcases hb with e3 | e3
    · exact hfar b _ e3 (by simpa using e) (by simp)
    · exact hfar b _ e3 (by simp) (by simpa using e)
end
end Go.Proofs.YteioennfpkoagaaGreatDoor.C
namespace Go.Proofs.YteioennfpkoagaaGreatDoor.C
open Go.RowKit K
attribute [local go_sem ↓] Go.wp_at_zero Go.wp_at_succ

theorem infoIntI : (Tryz.prog.info? 3).map (fun i => (i.zero, i.size, i.bytes)) = some (some (.int .i64 0), 1, 8) := by kernel_rfl
/- a list in the midst of its reading -/
structure LR {α : Type} (f : List UInt8 → α × List UInt8) (n : Nat) (l0 : List UInt8) (k : Nat) (X : List α) (l : List UInt8) : Prop where
  len : X.length = k
  all : readN f n l0 = (X ++ (readN f (n - k) l).1, (readN f (n - k) l).2)
  le : k ≤ n
theorem RD.below {w w' : World} {rb : Nat} {s : ByteArray} {l : List UInt8} (h : RD w rb s l) (hb : Below w.heap.size w w') : RD w' rb s l := h.keep (hb.block rb h.lt)
theorem own_far {w w' : World} {B e s n rb : Nat} {v : Value} {xs : List Value} (h : w.ownsRow B e s v n xs) (hB : rb < B) (hf : Frm (isB rb) w w') : w'.ownsRow B e s v n xs :=
  owns_keep h fun b hb => hf.block b (h.lt b hb).2 (fun e => by have := (h.lt b hb).1; unfold isB at e; omega)
theorem Frm.grow {w w1 w2 : World} {B rb e s n : Nat} {v : Value} {xs : List Value} (hf : Frm (isB rb) w w1) (hB : w.heap.size ≤ B) (h : w1.ownsRow B e s v n xs) (hg : w1.grownBy w2 v.ownBlock) : Frm (isB rb) w w2 := by
  have h2 := Frm.grown hg
  refine ⟨h2.os.trans hf.os, h2.tape.trans hf.tape, h2.output.trans hf.output, Nat.le_trans hf.size h2.size, fun k hk hn => ?_⟩
  rw [h2.block k (by have := hf.size; omega) (fun e => by have := (h.lt k e).1; omega), hf.block k hk hn]
theorem RD.grow {w1 w2 : World} {B rb e s n : Nat} {v : Value} {xs : List Value} {t : ByteArray} {l : List UInt8} (hr : RD w1 rb t l) (hB : rb < B) (h : w1.ownsRow B e s v n xs) (hg : w1.grownBy w2 v.ownBlock) : RD w2 rb t l :=
  hr.keep ((Frm.grown hg).block rb hr.lt fun e => by have := (h.lt rb e).1; omega)
theorem LR.start {α : Type} (f : List UInt8 → α × List UInt8) (n : Nat) (l0 : List UInt8) : LR f n l0 0 [] l0 := ⟨rfl, rfl, Nat.zero_le _⟩
theorem LR.step {α : Type} {f : List UInt8 → α × List UInt8} {n k : Nat} {l0 l : List UInt8} {X : List α} (h : LR f n l0 k X l) (hk : k < n) : LR f n l0 (k + 1) (X ++ [(f l).1]) (f l).2 := by
  refine ⟨by rw [List.length_append, h.len]; rfl, ?_, hk⟩
  rw [h.all]
  obtain ⟨m, hm⟩ : ∃ m, n - k = m + 1 := ⟨n - k - 1, by omega⟩
  have hm2 : n - (k + 1) = m := by omega
  rw [hm, hm2]
  show (X ++ ((f l).1 :: (readN f m (f l).2).1), _) = _
  rw [List.append_assoc]
  rfl
theorem LR.fin {α : Type} {f : List UInt8 → α × List UInt8} {n k : Nat} {l0 l : List UInt8} {X : List α} (h : LR f n l0 k X l) (hk : ¬ k < n) : readN f n l0 = (X, l) := by
  have := h.le
  have hm : n - k = 0 := by omega
  rw [h.all, hm]
  simp [readN]
set_option maxRecDepth 100000 in
set_option maxHeartbeats 4000000 in
theorem iplan_any (w : World) (rb : Nat) (s : ByteArray) (l : List UInt8) (hs : s.size ≤ 9223372036854775807) (h : RD w rb s l) :
    Calls Tryz.prog 185 #[.pointer (some ⟨rb, 0, none⟩)] w fun e w' => ∃ v, e = .returned v ∧ w'.ownsRow w.heap.size 3 1 v (planI l).1.length (intsC (planI l).1) ∧ RD w' rb s (planI l).2 ∧ Frm (isB rb) w w' := by
  obtain ⟨i0, hi0, hz0, hz1, hz2⟩ := parts_of infoIntI
  have hrb := h.lt
  go_enter Tryz.func185, Tryz.ntmps185
  go_wp2_with fail
  refine Calls.mono (number_any w rb s l hs h) ?_
  rintro e w1 ⟨rfl, hr1, hf1⟩
  have hn := num_lt l
  have HR1 : Hid (RD w1 rb s (numI l).2) := hr1
  have HF1 : Hid (Frm (isB rb) w w1) := hf1
  obtain ⟨n, hne⟩ : ∃ n, (numI l).1 = n := ⟨_, rfl⟩
  have HL : Hid (planI l = readN tickI n (numI l).2) := by
    show _ = _
    rw [← hne]; rfl
  rw [hne] at hn ⊢
  clear h hr1 hf1 hne
  generalize (numI l).2 = l0 at *
  go_wp2_with fail
  go_loopw [3, 6] (fun v i wr => ∃ (k : Nat) (va : Option Addr) (c : Nat) (X : List Int) (l' : List UInt8), i = .int .i64 k ∧ v = .slice va k c ∧ Hid (LR tickI n l0 k X l') ∧ Hid (wr.ownsRow w.heap.size 3 1 (.slice va k c) k (intsC X)) ∧ Hid (RD wr rb s l') ∧ Hid (Frm (isB rb) w wr)) (fun _ i _ => n - (intOf i).toNat)
  case atStart => exact ⟨0, none, 0, [], l0, rfl, rfl, LR.start _ _ _, World.ownsRow_nil _ _ _ _, HR1, HF1⟩
  case round =>
    obtain ⟨k, va, c, X, l', rfl, rfl, HLR, HOW, HRD, HFR⟩ := hrel
    clear HR1 HF1
    by_cases hlt : k < n
    · have hlt' : (k : Int) < (n : Int) := by omega
      go_wp2_with fail
      refine Calls.mono (number_any wr rb s l' hs HRD.out) ?_
      rintro e w2 ⟨rfl, hr2, hf2⟩
      have hx := num_lt l'
      have HR2 : Hid (RD w2 rb s (numI l').2) := hr2
      have HF2 : Hid (Frm (isB rb) w w2) := HFR.out.trans hf2 (newO.refl _ _)
      have HO2 : Hid (w2.ownsRow w.heap.size 3 1 (.slice va k c) k (intsC X)) := own_far HOW.out hrb hf2
      have HL2 : Hid (LR tickI n l0 (k + 1) (X ++ [(((numI l').1 : Nat) : Int) - 1]) (numI l').2) := HLR.out.step hlt
      clear hr2 hf2 HLR HOW HRD HFR
      generalize (numI l').2 = l2 at *
      generalize (numI l').1 = x at *
      have hsz := HF2.out.size
      go_wp2_with (first
        | (at_builtin; refine wpList_append_lies _ rfl _ _ _ rfl w.heap.size 3 i0 _ 1 8 Tryz.underlying48 hi0 hz0 hz1 hz2 rfl (by omega) (.slice va k c) k (intsC X) rfl (HO2.out.alloc _) ⟨w2.heap.size, 0, none⟩ 1 1 [.int .i64 ((x : Int) - 1)] rfl rfl (World.news_of_block (cs := #[.int .i64 ((x : Int) - 1)]) (t := 3) (fr := (0, 0)) (heap_new w2 _)) (by simp [Value.oneCell']) (by omega) (by unfold maxLen; omega) (by omega) (by simp; omega) (w2.heap.size + 1) (by simp) ?_; intro g9 c9 V9 hown9 hgrow9 hat9 hlt9)
        | fail)
      have hfa : Frm (isB rb) w (w2.alloc (.cells #[.int .i64 ((x : Int) - 1)] 3)) := HF2.out.alloc _
      refine ⟨⟨k + 1, _, c9, _, l2, by go_num, rfl, HL2, ?_, ?_, ?_⟩, by simp [intOf]; omega⟩
      · have e : intsC (X ++ [(x : Int) - 1]) = intsC X ++ [.int .i64 ((x : Int) - 1)] := by simp [intsC]
        rw [e]; exact hown9
      · exact (HR2.out.below (newB w2 _)).grow hrb (HO2.out.alloc _) hgrow9
      · exact hfa.grow (Nat.le_refl _) (HO2.out.alloc _) hgrow9
    · have hlt' : ¬ (k : Int) < (n : Int) := by omega
      go_wp2_with fail
      go_ret
      have hfin := HLR.out.fin hlt
      have hl := HLR.out.len
      rw [HL.out, hfin]
      exact ⟨_, rfl, by rw [hl]; exact HOW.out, HRD.out, HFR.out⟩
end Go.Proofs.YteioennfpkoagaaGreatDoor.C
