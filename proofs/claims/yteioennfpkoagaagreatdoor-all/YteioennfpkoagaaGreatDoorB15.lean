import Derived.Test.YteioennfpkoagaaGreatDoorB14
import Derived.Test.YteioennfpkoagaaGreatDoorB05
import Derived.Test.YteioennfpkoagaaGreatDoorB04
import Derived.Test.YteioennfpkoagaaGreatDoorB13
namespace Go.Proofs.YteioennfpkoagaaGreatDoor.C
open Go.RowKit
attribute [local go_sem ↓] Go.wp_at_zero Go.wp_at_succ

theorem own_lower {w : World} {B B' e s n : Nat} {v : Value} {xs : List Value} (h : w.ownsRow B e s v n xs) (hb : B' ≤ B) : w.ownsRow B' e s v n xs := by
  refine ⟨h.1, ?_⟩
  rcases h.2 with hn | ⟨g, cap, cur, hv, hB, rest⟩
  · exact .inl hn
  · exact .inr ⟨g, cap, cur, hv, Nat.le_trans hb hB, rest⟩
theorem check_fit {M : ManD} (h : checkF M = 0) : PartsT M.frame M.parts ∧ SmallP M.parts := by
  obtain ⟨h1, h2, h3, h4, h5, h6⟩ := check_ok h
  have hp : ∀ k (hk : k < M.parts.length), (1 ≤ M.parts[k].period ∧ M.parts[k].period ≤ M.frame ∧ M.frame % M.parts[k].period = 0) ∧ 1 ≤ M.parts[k].duration ∧ M.parts[k].duration ≤ M.parts[k].period := fun k hk => by
    have h := (h5 k hk).2
    unfold partErr at h
    split at h
    · cases h
    split at h
    · cases h
    split at h
    · cases h
    rename_i a b c
    refine ⟨⟨?_, ?_, ?_⟩, ?_, ?_⟩ <;> omega
  have hfit : ticksF M.frame M.parts ≤ M.frame := by
    unfold checkF at h
    split at h
    · cases h
    split at h
    · cases h
    split at h
    · rename_i h7; exact absurd h h7
    split at h
    · rename_i h7; exact absurd h h7
    split at h
    · cases h
    omega
  exact ⟨⟨h1, fun j hj => ⟨(hp j hj).1.1, (hp j hj).1.2.2⟩, fun j hj => (hp j hj).2.1, hfit⟩, ⟨fun j hj => by have := (hp j hj).1; omega, fun j hj => by have := (hp j hj).1; have := (hp j hj).2; omega⟩⟩
set_option maxRecDepth 100000 in
set_option maxHeartbeats 4000000 in
theorem planC_true : PlanC := by
  intro f ps cs pv cv w hp hpc hc hcc hn hm hr
  have HP : Hid _ := hp
  have HPC : Hid _ := hpc
  have HC : Hid _ := hc
  have HCC : Hid _ := hcc
  have HR : Hid _ := hr
  clear hpc hcc hr
  obtain ⟨va, cap, rfl, hx⟩ := hp
  clear hx
  obtain ⟨ca, ck, rfl, hx⟩ := hc
  clear hx
  have b0 := newB w (.cells #[.int .i64 f, .slice va ps.length cap, .slice ca cs.length ck] 34)
  have h0 := heap_new w (.cells #[.int .i64 f, .slice va ps.length cap, .slice ca cs.length ck] 34)
  go_enter Tryz.func20, Tryz.ntmps20
  go_wp2_with fail
  generalize w.alloc (.cells #[.int .i64 f, .slice va ps.length cap, .slice ca cs.length ck] 34) = W0 at *
  refine Calls.mono (manCheck_any f ps cs _ _ W0 (PartsV.below HP.out b0) (PartsC.below HP.out HPC.out b0) (ChansV.below HC.out b0) HCC.out (by omega) (fun k hk => by have := HR.out k hk; omega) (by omega)) ?_
  rintro e w2 ⟨rfl, hb2⟩
  have m2 := keepN h0 hb2
  have y0 : w2.cell? ⟨w.heap.size, 0, none⟩ = some (.int .i64 f) := by rw [cell_of_blk m2]; rfl
  have y1 : w2.cell? ⟨w.heap.size, 1, none⟩ = some (.slice va ps.length cap) := by rw [cell_of_blk m2]; rfl
  have y2 : w2.cell? ⟨w.heap.size, 2, none⟩ = some (.slice ca cs.length ck) := by rw [cell_of_blk m2]; rfl
  have bw2 := b0.trans (hb2.mono b0.size)
  clear h0 m2 b0 hb2
  by_cases hz : checkF ⟨f, ps, cs⟩ = 0
  · obtain ⟨hT, hS⟩ := check_fit hz
    have hf := check_ok hz
    simp only [] at hT hS
    have hf1 : 1 ≤ f := hf.1
    have hf2 : f ≤ 240 := hf.2.1
    have hpl : ps.length ≤ 8 := hf.2.2.1
    have HT : Hid _ := hT
    have HS : Hid _ := hS
    have HZ : Hid _ := hz
    clear hf hT hS
    obtain ⟨n, rfl⟩ : ∃ n : Nat, f = n := ⟨f.toNat, by omega⟩
    rw [hz]
    clear hz
    go_wp2_with fail
    refine Calls.mono (plan_any n ps _ _ w2 (PartsV.below HP.out bw2) ⟨_, _, _, rfl⟩ HT.out HS.out (by omega) hpl) ?_
    rintro e w3 ⟨v, rfl, hown, hb3⟩
    go_wp2_with fail
    go_ret2
    refine .inr ⟨HZ.out, bw2.trans (hb3.mono bw2.size), v, rfl, ?_⟩
    have e1 : (planF ⟨n, ps, cs⟩) = (planN ps n).1 := rfl
    rw [e1, (planN_len ps n).1]
    exact own_lower hown bw2.size
  · have HZ : Hid _ := hz
    go_wp2_with fail
    go_ret2
    exact .inl ⟨HZ.out, rfl, bw2⟩
end Go.Proofs.YteioennfpkoagaaGreatDoor.C
namespace Go.Proofs.YteioennfpkoagaaGreatDoor.C
open Go.RowKit

def rgL : List PartD → List Nat → List Value
  | x :: ps, g :: gs => .slice (some ⟨g, 0, none⟩) (x.regs.length + 8) (x.regs.length + 8) :: rgL ps gs
  | _, _ => []
def ctL : List PartD → List Nat → List Value
  | x :: ps, _ :: gs => .int .i64 x.regs.length :: ctL ps gs
  | _, _ => []
theorem rgL_snoc (ps : List PartD) (gs : List Nat) (g : Nat) (h : gs.length < ps.length) : rgL ps (gs ++ [g]) = rgL ps gs ++ [.slice (some ⟨g, 0, none⟩) (ps[gs.length].regs.length + 8) (ps[gs.length].regs.length + 8)] := by
  induction ps generalizing gs with
  | nil => simp at h
  | cons x ps ih =>
    cases gs with
    | nil => cases ps <;> simp [rgL]
    | cons g' gs => simp only [List.cons_append, rgL, ih gs (by simpa using h)]; simp
theorem ctL_snoc (ps : List PartD) (gs : List Nat) (g : Nat) (h : gs.length < ps.length) : ctL ps (gs ++ [g]) = ctL ps gs ++ [.int .i64 ps[gs.length].regs.length] := by
  induction ps generalizing gs with
  | nil => simp at h
  | cons x ps ih =>
    cases gs with
    | nil => cases ps <;> simp [ctL]
    | cons g' gs => simp only [List.cons_append, ctL, ih gs (by simpa using h)]; simp
theorem rgL_at (ps : List PartD) (gs : List Nat) (i : Nat) (hi : i < gs.length) (hp : gs.length ≤ ps.length) : (rgL ps gs)[i]? = some (.slice (some ⟨gs[i], 0, none⟩) (ps[i].regs.length + 8) (ps[i].regs.length + 8)) := by
  induction ps generalizing gs i with
  | nil => simp at hp; subst hp; simp at hi
  | cons x ps ih =>
    cases gs with
    | nil => simp at hi
    | cons g gs =>
      cases i with
      | zero => simp [rgL]
      | succ i => simpa [rgL] using ih gs i (by simpa using hi) (by simpa using hp)
theorem ctL_at (ps : List PartD) (gs : List Nat) (i : Nat) (hi : i < gs.length) (hp : gs.length ≤ ps.length) : (ctL ps gs)[i]? = some (.int .i64 ps[i].regs.length) := by
  induction ps generalizing gs i with
  | nil => simp at hp; subst hp; simp at hi
  | cons x ps ih =>
    cases gs with
    | nil => simp at hi
    | cons g gs =>
      cases i with
      | zero => simp [ctL]
      | succ i => simpa [ctL] using ih gs i (by simpa using hi) (by simpa using hp)

/- in the midst of 'lent': k places of the new list of partitions are written; wA: the world when the law began -/
structure LS (wA w : World) (lb mb ob pb : Nat) (f : Int) (pv cv : Value) (ps : List PartD) (k : Nat) (rgv ctv chv : Value) (G Gr Gc : List Nat) (R : List Value) : Prop where
  loan : w.heap[lb]? = some (.cells #[rgv, ctv, .slice (some ⟨pb, 0, none⟩) (ps.length + 8) (ps.length + 8), chv, .int .i64 f, pv, cv] 186 (0, 0))
  man : w.heap[mb]? = some (.cells #[.int .i64 f, pv, cv] 34 (0, 0))
  res : w.heap[ob]? = some (.cells #[.int .i64 0, .slice none 0 0, .slice none 0 0] 34 (0, 0))
  part : w.heap[pb]? = some (.cells (partsC ps G ++ (rep badPC (k - ps.length) ++ R)).toArray 42 (0, 0))
  gl : G.length = min k ps.length
  rl : R.length = (ps.length + 8 - k) * 5
  rr : w.ownsRow wA.heap.size 40 1 rgv Gr.length (rgL ps Gr)
  rc : w.ownsRow wA.heap.size 3 1 ctv Gc.length (ctL ps Gc)
  rg : Gr.length ≤ ps.length
  blk : ∀ j (h : j < Gr.length) (h' : j < ps.length), w.heap[Gr[j]]? = some (.cells (regsC ps[j].regs ++ rep badRC 8).toArray 90 (0, 0)) ∧ wA.heap.size ≤ Gr[j]
  low : Below wA.heap.size wA w
  ord : wA.heap.size ≤ lb ∧ wA.heap.size ≤ mb ∧ wA.heap.size ≤ ob ∧ wA.heap.size ≤ pb ∧ mb ≠ ob
/- other blocks are written -/
theorem LS.kb {wA w w' : World} {lb mb ob pb : Nat} {f : Int} {pv cv : Value} {ps : List PartD} {k : Nat} {rgv ctv chv : Value} {G Gr Gc : List Nat} {R : List Value} {A : Nat → Prop} (h : LS wA w lb mb ob pb f pv cv ps k rgv ctv chv G Gr Gc R) (hk : KB A w w')
    (hA : ∀ x, A x → wA.heap.size ≤ x) (h1 : ¬ A lb) (h2 : ¬ A mb) (h3 : ¬ A ob) (h4 : ¬ A pb) (h5 : ∀ x, rgv.ownBlock = some x → ¬ A x) (h6 : ∀ x, ctv.ownBlock = some x → ¬ A x) (h7 : ∀ j (hj : j < Gr.length), ¬ A Gr[j]) : LS wA w' lb mb ob pb f pv cv ps k rgv ctv chv G Gr Gc R :=
  ⟨(hk.block _ (lt_of_blk h.loan) h1).trans h.loan, (hk.block _ (lt_of_blk h.man) h2).trans h.man, (hk.block _ (lt_of_blk h.res) h3).trans h.res, (hk.block _ (lt_of_blk h.part) h4).trans h.part, h.gl, h.rl, KB.own h.rr hk h5, KB.own h.rc hk h6, h.rg,
    fun j hj hj' => ⟨(hk.block _ (lt_of_blk (h.blk j hj hj').1) (h7 j hj)).trans (h.blk j hj hj').1, (h.blk j hj hj').2⟩, h.low.trans (hk.toBelow h.low.size hA), h.ord⟩
theorem LS.below {wA w w' : World} {lb mb ob pb : Nat} {f : Int} {pv cv : Value} {ps : List PartD} {k : Nat} {rgv ctv chv : Value} {G Gr Gc : List Nat} {R : List Value} (h : LS wA w lb mb ob pb f pv cv ps k rgv ctv chv G Gr Gc R) (hb : Below w.heap.size w w') : LS wA w' lb mb ob pb f pv cv ps k rgv ctv chv G Gr Gc R :=
  h.kb (A := fun _ => False) (KB.below hb) (fun _ h => h.elim) id id id id (fun _ _ => id) (fun _ _ => id) (fun _ _ => id)
/- a block of the wrong type is none of these -/
theorem blk_ty {w : World} {x y T T' : Nat} {a b : Array Value} (h : w.heap[x]? = some (.cells a T (0, 0))) (h' : w.heap[y]? = some (.cells b T' (0, 0))) (hne : T ≠ T') : x ≠ y := by
  intro e; subst e; rw [h] at h'; simp at h'; exact hne h'.2
theorem LS.gs_ne {wA w : World} {lb mb ob pb : Nat} {f : Int} {pv cv : Value} {ps : List PartD} {k : Nat} {rgv ctv chv : Value} {G Gr Gc : List Nat} {R : List Value} (h : LS wA w lb mb ob pb f pv cv ps k rgv ctv chv G Gr Gc R) {x T : Nat} {a : Array Value} (hx : w.heap[x]? = some (.cells a T (0, 0))) (hT : T ≠ 90) : ∀ j (hj : j < Gr.length), Gr[j] ≠ x := by
  intro j hj
  have := h.rg
  exact blk_ty (h.blk j hj (by omega)).1 hx (fun e => hT e.symm)
/- the next place of the list of partitions is written: five cells -/
theorem part_row {w : World} {pb k : Nat} {D R : List Value} {vs : List Value} (hD : D.length = k * 5) (hv : vs.length = 5) (hR : 5 ≤ R.length) (h : w.heap[pb]? = some (.cells (D ++ R).toArray 42 (0, 0))) :
    (w.setCells pb (k * 5) vs).heap[pb]? = some (.cells (D ++ (vs ++ R.drop 5)).toArray 42 (0, 0)) := by
  have key : ∀ (vs : List Value) (w : World) (o : Nat) (L : List Value), w.heap[pb]? = some (.cells L.toArray 42 (0, 0)) → (w.setCells pb o vs).heap[pb]? = some (.cells (setL L o vs).toArray 42 (0, 0)) := by
    intro vs
    induction vs with
    | nil => intro w o L h; exact h
    | cons v r ih =>
      intro w o L h
      refine ih _ _ _ ?_
      rw [blk_set o v h]; simp
  have h1 := key vs w (k * 5) (D ++ R) h
  have e : D ++ R = D ++ (R.take 5 ++ R.drop 5) := by rw [List.take_append_drop]
  rw [e, ← hD, setL_mid _ _ _ _ (by rw [List.length_take, hv]; omega)] at h1
  rw [← hD]; exact h1
theorem LS.dlen {wA w : World} {lb mb ob pb : Nat} {f : Int} {pv cv : Value} {ps : List PartD} {k : Nat} {rgv ctv chv : Value} {G Gr Gc : List Nat} {R : List Value} (h : LS wA w lb mb ob pb f pv cv ps k rgv ctv chv G Gr Gc R) : (partsC ps G ++ rep badPC (k - ps.length)).length = k * 5 := by
  have := h.gl
  rw [List.length_append, partsC_len _ _ (by omega), rep_len]
  have : badPC.length = 5 := rfl
  rw [this]; omega
theorem LS.rlen {wA w : World} {lb mb ob pb : Nat} {f : Int} {pv cv : Value} {ps : List PartD} {k : Nat} {rgv ctv chv : Value} {G Gr Gc : List Nat} {R : List Value} (h : LS wA w lb mb ob pb f pv cv ps k rgv ctv chv G Gr Gc R) (hk : k < ps.length + 8) : 5 ≤ R.length := by
  obtain ⟨m, hm'⟩ : ∃ m, ps.length + 8 - k = m + 1 := ⟨ps.length + 8 - k - 1, by omega⟩
  rw [h.rl, hm', Nat.succ_mul]; omega
theorem LS.setRow {wA w : World} {lb mb ob pb : Nat} {f : Int} {pv cv : Value} {ps : List PartD} {k : Nat} {rgv ctv chv : Value} {G Gr Gc : List Nat} {R : List Value} (h : LS wA w lb mb ob pb f pv cv ps k rgv ctv chv G Gr Gc R) (hk : k < ps.length + 8) (vs : List Value) (hv : vs.length = 5) : LS wA (w.setCells pb (k * 5) vs) lb mb ob pb f pv cv ps k rgv ctv chv G Gr Gc (vs ++ R.drop 5) := by
  have hkb : KB (fun x => x = pb) w (w.setCells pb (k * 5) vs) := KB.of (grown_setCells pb vs (k * 5) w) (fun x e => by injection e with e; exact e.symm)
  have n1 : lb ≠ pb := blk_ty h.loan h.part (by decide)
  have n2 : mb ≠ pb := blk_ty h.man h.part (by decide)
  have n3 : ob ≠ pb := blk_ty h.res h.part (by decide)
  have hp := h.part
  rw [← List.append_assoc] at hp
  have hp2 := part_row h.dlen hv (h.rlen hk) hp
  refine ⟨(hkb.block _ (lt_of_blk h.loan) n1).trans h.loan, (hkb.block _ (lt_of_blk h.man) n2).trans h.man, (hkb.block _ (lt_of_blk h.res) n3).trans h.res, ?_, h.gl, ?_, KB.own h.rr hkb (fun x hx e => ?_), KB.own h.rc hkb (fun x hx e => ?_), h.rg, fun j hj hj' => ⟨(hkb.block _ (lt_of_blk (h.blk j hj hj').1) (h.gs_ne h.part (by decide) j hj)).trans (h.blk j hj hj').1, (h.blk j hj hj').2⟩, h.low.trans (hkb.toBelow h.low.size (fun x e => by have := h.ord; omega)), h.ord⟩
  · rw [hp2, List.append_assoc]
  · rw [List.length_append, List.length_drop, hv]; have := h.rlen hk; have := h.rl; omega
  · rw [e] at hx; exact own_not h.rr h.part (by decide) hx
  · rw [e] at hx; exact own_not h.rc h.part (by decide) hx
/- a place behind the list is written -/
theorem LS.bad {wA w : World} {lb mb ob pb : Nat} {f : Int} {pv cv : Value} {ps : List PartD} {k : Nat} {rgv ctv chv : Value} {G Gr Gc : List Nat} {R : List Value} (h : LS wA w lb mb ob pb f pv cv ps k rgv ctv chv G Gr Gc (badPC ++ R)) (hk : k < ps.length + 8) (hn : ps.length ≤ k) : LS wA w lb mb ob pb f pv cv ps (k + 1) rgv ctv chv G Gr Gc R := by
  have hgl := h.gl
  have hrl := h.rl
  have hb5 : badPC.length = 5 := rfl
  refine ⟨h.loan, h.man, h.res, ?_, by omega, ?_, h.rr, h.rc, h.rg, h.blk, h.low, h.ord⟩
  · rw [h.part, show k + 1 - ps.length = (k - ps.length) + 1 by omega, rep_add, rep_one]; simp
  · rw [List.length_append, hb5] at hrl; omega
theorem add_at (b off j : Nat) : (⟨b, off, none⟩ : Addr).add j = ⟨b, off + j, none⟩ := by unfold Addr.add; split <;> simp_all
theorem regs_src {w : World} {va : Option Addr} {cap : Nat} {rs : List RegD} (h : RegsV w (.slice va rs.length cap) rs) (hp : 0 < rs.length) : ∃ a, va = some a ∧ ∀ j u, (regsC rs)[j]? = some u → w.cell? (a.add j) = some u := by
  obtain ⟨va', cap', e, hc⟩ := h
  cases e
  obtain ⟨b, off, rfl, _⟩ := hc 0 hp
  refine ⟨⟨b, off, none⟩, rfl, fun j u hu => ?_⟩
  have hj : j < rs.length * 3 := by rw [← regsC_len]; exact (List.getElem?_eq_some_iff.1 hu).1
  obtain ⟨b', off', e, h0, h1, h2⟩ := hc (j / 3) (by omega)
  cases e
  have ha := regsC_at rs (j / 3) (j % 3) (by omega) (by omega)
  rw [show j / 3 * 3 + j % 3 = j by omega, hu] at ha
  rw [add_at]
  have hr : j % 3 = 0 ∨ j % 3 = 1 ∨ j % 3 = 2 := by omega
  rcases hr with hr | hr | hr <;> rw [hr] at ha <;> simp [regC] at ha <;> rw [ha]
  · rw [show off + j = off + j / 3 * 3 by omega]; exact h0
  · rw [show off + j = off + j / 3 * 3 + 1 by omega]; exact h1
  · rw [show off + j = off + j / 3 * 3 + 2 by omega]; exact h2
theorem chans_src {w : World} {va : Option Addr} {cap : Nat} {rs : List ChanD} (h : ChansV w (.slice va rs.length cap) rs) (hp : 0 < rs.length) : ∃ a, va = some a ∧ ∀ j u, (chansC rs)[j]? = some u → w.cell? (a.add j) = some u := by
  obtain ⟨va', cap', e, hc⟩ := h
  cases e
  obtain ⟨b, off, rfl, _⟩ := hc 0 hp
  refine ⟨⟨b, off, none⟩, rfl, fun j u hu => ?_⟩
  have hj : j < rs.length * 6 := by rw [← chansC_len]; exact (List.getElem?_eq_some_iff.1 hu).1
  obtain ⟨b', off', e, h0, h1, h2, h3, h4, h5⟩ := hc (j / 6) (by omega)
  cases e
  have ha := chansC_at rs (j / 6) (j % 6) (by omega) (by omega)
  rw [show j / 6 * 6 + j % 6 = j by omega, hu] at ha
  rw [add_at]
  have hr : j % 6 = 0 ∨ j % 6 = 1 ∨ j % 6 = 2 ∨ j % 6 = 3 ∨ j % 6 = 4 ∨ j % 6 = 5 := by omega
  rcases hr with hr | hr | hr | hr | hr | hr <;> rw [hr] at ha <;> simp [chanC] at ha <;> rw [ha]
  · rw [show off + j = off + j / 6 * 6 by omega]; exact h0
  · rw [show off + j = off + j / 6 * 6 + 1 by omega]; exact h1
  · rw [show off + j = off + j / 6 * 6 + 2 by omega]; exact h2
  · rw [show off + j = off + j / 6 * 6 + 3 by omega]; exact h3
  · rw [show off + j = off + j / 6 * 6 + 4 by omega]; exact h4
  · rw [show off + j = off + j / 6 * 6 + 5 by omega]; exact h5
theorem regsC_one (rs : List RegD) : ∀ v ∈ regsC rs, v.oneCell' = true := by
  intro v hv
  obtain ⟨r, _, hr⟩ := List.mem_flatMap.1 hv
  simp [regC] at hr
  rcases hr with rfl | rfl | rfl <;> rfl
theorem chansC_one (rs : List ChanD) : ∀ v ∈ chansC rs, v.oneCell' = true := by
  intro v hv
  obtain ⟨r, _, hr⟩ := List.mem_flatMap.1 hv
  simp [chanC] at hr
  rcases hr with rfl | rfl | rfl | rfl | rfl | rfl <;> rfl
/- what is left of a new row behind what was copied in -/
theorem infoReg3 : (Tryz.prog.info? 90).map (·.size) = some 3 := by kernel_rfl
theorem infoChan6 : (Tryz.prog.info? 92).map (·.size) = some 6 := by kernel_rfl
theorem kb_setRow (w : World) (g : Nat) (cs : Array Value) : KB (fun x => x = g) w (w.setRow g cs) := ⟨rfl, rfl, rfl, by simp [World.setRow], fun k _ hn => setRow_other w g k cs hn⟩
/- a row of regions of the call's own is written -/
theorem LS.kbReg {wA w w' : World} {lb mb ob pb gb : Nat} {f : Int} {pv cv : Value} {ps : List PartD} {k : Nat} {rgv ctv chv : Value} {G Gr Gc : List Nat} {R : List Value} {c : Array Value} (h : LS wA w lb mb ob pb f pv cv ps k rgv ctv chv G Gr Gc R) (hg : w.heap[gb]? = some (.cells c 90 (0, 0))) (hb : wA.heap.size ≤ gb) (hG : ∀ j (hj : j < Gr.length), Gr[j] ≠ gb) (hk : KB (fun x => x = gb) w w') : LS wA w' lb mb ob pb f pv cv ps k rgv ctv chv G Gr Gc R :=
  h.kb hk (fun x e => by omega) (blk_ty h.loan hg (by decide)) (blk_ty h.man hg (by decide)) (blk_ty h.res hg (by decide)) (blk_ty h.part hg (by decide)) (fun x hx e => own_not h.rr hg (by decide) (by rw [hx, e])) (fun x hx e => own_not h.rc hg (by decide) (by rw [hx, e])) hG
/- three cells of such a row -/
theorem reg_row {w : World} {gb k : Nat} {D R : List Value} {vs : List Value} (hD : D.length = k * 3) (hv : vs.length = 3) (hR : 3 ≤ R.length) (h : w.heap[gb]? = some (.cells (D ++ R).toArray 90 (0, 0))) :
    (w.setCells gb (k * 3) vs).heap[gb]? = some (.cells (D ++ (vs ++ R.drop 3)).toArray 90 (0, 0)) := by
  have key : ∀ (vs : List Value) (w : World) (o : Nat) (L : List Value), w.heap[gb]? = some (.cells L.toArray 90 (0, 0)) → (w.setCells gb o vs).heap[gb]? = some (.cells (setL L o vs).toArray 90 (0, 0)) := by
    intro vs
    induction vs with
    | nil => intro w o L h; exact h
    | cons v r ih =>
      intro w o L h
      refine ih _ _ _ ?_
      rw [blk_set o v h]; simp
  have h1 := key vs w (k * 3) (D ++ R) h
  have e : D ++ R = D ++ (R.take 3 ++ R.drop 3) := by rw [List.take_append_drop]
  rw [e, ← hD, setL_mid _ _ _ _ (by rw [List.length_take, hv]; omega)] at h1
  rw [← hD]; exact h1
theorem kb_setCells (w : World) (g o : Nat) (vs : List Value) : KB (fun x => x = g) w (w.setCells g o vs) := KB.of (grown_setCells g vs o w) (fun x e => by injection e with e; exact e.symm)
theorem own_ge {w : World} {base e size n : Nat} {v : Value} {xs : List Value} (h : w.ownsRow base e size v n xs) {x : Nat} (hx : v.ownBlock = some x) : base ≤ x := (h.lt x hx).1
/- the list of lists has grown by one, and is stored -/
theorem LS.addR {wA w w' : World} {lb mb ob pb gb : Nat} {f : Int} {pv cv : Value} {ps : List PartD} {k : Nat} {rgv ctv chv v' : Value} {G Gr Gc : List Nat} {R : List Value} (h : LS wA w lb mb ob pb f pv cv ps k rgv ctv chv G Gr Gc R) (hl : Gr.length < ps.length) (hg : w.heap[gb]? = some (.cells (regsC ps[Gr.length].regs ++ rep badRC 8).toArray 90 (0, 0))) (hb : wA.heap.size ≤ gb)
    (hgr : w.grownBy w' rgv.ownBlock) (ho : w'.ownsRow wA.heap.size 40 1 v' (Gr.length + 1) (rgL ps Gr ++ [.slice (some ⟨gb, 0, none⟩) (ps[Gr.length].regs.length + 8) (ps[Gr.length].regs.length + 8)])) :
    LS wA (w'.setCell ⟨lb, 0, none⟩ v') lb mb ob pb f pv cv ps k v' ctv chv G (Gr ++ [gb]) Gc R := by
  have hk : KB (fun x => rgv.ownBlock = some x) w w' := KB.of hgr (fun x e => e)
  have b1 := (hk.block _ (lt_of_blk h.loan) (own_not h.rr h.loan (by decide))).trans h.loan
  have b2 := (hk.block _ (lt_of_blk h.man) (own_not h.rr h.man (by decide))).trans h.man
  have b3 := (hk.block _ (lt_of_blk h.res) (own_not h.rr h.res (by decide))).trans h.res
  have b4 := (hk.block _ (lt_of_blk h.part) (own_not h.rr h.part (by decide))).trans h.part
  have b5 := (hk.block _ (lt_of_blk hg) (own_not h.rr hg (by decide))).trans hg
  have rc := own_apart h.rc h.rr (by decide) hgr
  have n2 : mb ≠ lb := blk_ty b2 b1 (by decide)
  have n3 : ob ≠ lb := blk_ty b3 b1 (by decide)
  have n4 : pb ≠ lb := blk_ty b4 b1 (by decide)
  have n5 : gb ≠ lb := blk_ty b5 b1 (by decide)
  refine ⟨by rw [blk_set 0 _ b1]; rfl, by rw [blk_far _ _ n2]; exact b2, by rw [blk_far _ _ n3]; exact b3, by rw [blk_far _ _ n4]; exact b4, h.gl, h.rl, ?_, own_other rc b1 (by decide) 0 v', by simp; omega, fun j hj hj' => ?_, (h.low.trans (hk.toBelow h.low.size (fun x e => own_ge h.rr e))).setCell h.ord.1 _, h.ord⟩
  · rw [rgL_snoc ps Gr gb hl, List.length_append]; exact own_other ho b1 (by decide) 0 v'
  · rcases Nat.lt_or_ge j Gr.length with h1 | h1
    · rw [List.getElem_append_left h1]
      have hb0 := h.blk j h1 hj'
      have hb1 := (hk.block _ (lt_of_blk hb0.1) (own_not h.rr hb0.1 (by decide))).trans hb0.1
      exact ⟨by rw [blk_far _ _ (blk_ty hb1 b1 (by decide))]; exact hb1, hb0.2⟩
    · have he : j = Gr.length := by simp at hj; omega
      subst he
      rw [List.getElem_append_right (by omega)]
      simp only [Nat.sub_self, List.getElem_cons_zero]
      exact ⟨by rw [blk_far _ _ n5]; exact b5, hb⟩
theorem LS.addC {wA w w' : World} {lb mb ob pb gb : Nat} {f : Int} {pv cv : Value} {ps : List PartD} {k : Nat} {rgv ctv chv v' : Value} {G Gr Gc : List Nat} {R : List Value} (h : LS wA w lb mb ob pb f pv cv ps k rgv ctv chv G Gr Gc R) (hl : Gc.length < ps.length)
    (hgr : w.grownBy w' ctv.ownBlock) (ho : w'.ownsRow wA.heap.size 3 1 v' (Gc.length + 1) (ctL ps Gc ++ [.int .i64 ps[Gc.length].regs.length])) :
    LS wA (w'.setCell ⟨lb, 1, none⟩ v') lb mb ob pb f pv cv ps k rgv v' chv G Gr (Gc ++ [gb]) R := by
  have hk : KB (fun x => ctv.ownBlock = some x) w w' := KB.of hgr (fun x e => e)
  have b1 := (hk.block _ (lt_of_blk h.loan) (own_not h.rc h.loan (by decide))).trans h.loan
  have b2 := (hk.block _ (lt_of_blk h.man) (own_not h.rc h.man (by decide))).trans h.man
  have b3 := (hk.block _ (lt_of_blk h.res) (own_not h.rc h.res (by decide))).trans h.res
  have b4 := (hk.block _ (lt_of_blk h.part) (own_not h.rc h.part (by decide))).trans h.part
  have rr := own_apart h.rr h.rc (by decide) hgr
  have n2 : mb ≠ lb := blk_ty b2 b1 (by decide)
  have n3 : ob ≠ lb := blk_ty b3 b1 (by decide)
  have n4 : pb ≠ lb := blk_ty b4 b1 (by decide)
  refine ⟨by rw [blk_set 1 _ b1]; rfl, by rw [blk_far _ _ n2]; exact b2, by rw [blk_far _ _ n3]; exact b3, by rw [blk_far _ _ n4]; exact b4, h.gl, h.rl, own_other rr b1 (by decide) 1 v', ?_, h.rg, fun j hj hj' => ?_, (h.low.trans (hk.toBelow h.low.size (fun x e => own_ge h.rc e))).setCell h.ord.1 _, h.ord⟩
  · rw [ctL_snoc ps Gc gb hl, List.length_append]; exact own_other ho b1 (by decide) 1 v'
  · have hb0 := h.blk j hj hj'
    have hb1 := (hk.block _ (lt_of_blk hb0.1) (own_not h.rc hb0.1 (by decide))).trans hb0.1
    exact ⟨by rw [blk_far _ _ (blk_ty hb1 b1 (by decide))]; exact hb1, hb0.2⟩
/- a place of the list is done -/
theorem LS.next {wA w : World} {lb mb ob pb gb : Nat} {f : Int} {pv cv : Value} {ps : List PartD} {k : Nat} {rgv ctv chv : Value} {G Gr Gc : List Nat} {R : List Value} (hk : k < ps.length) (h : LS wA w lb mb ob pb f pv cv ps k rgv ctv chv G Gr Gc (partC ps[k] gb ++ R)) : LS wA w lb mb ob pb f pv cv ps (k + 1) rgv ctv chv (G ++ [gb]) Gr Gc R := by
  have hgl := h.gl
  have hrl := h.rl
  have hG : G.length = k := by omega
  have h5 : (partC ps[k] gb).length = 5 := rfl
  refine ⟨h.loan, h.man, h.res, ?_, by simp; omega, ?_, h.rr, h.rc, h.rg, h.blk, h.low, h.ord⟩
  · have e1 : k - ps.length = 0 := by omega
    have e2 : k + 1 - ps.length = 0 := by omega
    have hp := h.part
    rw [e1] at hp
    rw [e2, hp]
    subst hG
    rw [partsC_snoc ps G gb hk]
    simp [rep]
  · rw [List.length_append, h5] at hrl; omega
/- a partition of the call's own, no place of the list, is written -/
theorem LS.kbPart {wA w w' : World} {lb mb ob pb xb : Nat} {f : Int} {pv cv : Value} {ps : List PartD} {k : Nat} {rgv ctv chv : Value} {G Gr Gc : List Nat} {R : List Value} {c : Array Value} (h : LS wA w lb mb ob pb f pv cv ps k rgv ctv chv G Gr Gc R) (hx : w.heap[xb]? = some (.cells c 42 (0, 0))) (hb : wA.heap.size ≤ xb) (hp : pb ≠ xb) (hk : KB (fun x => x = xb) w w') : LS wA w' lb mb ob pb f pv cv ps k rgv ctv chv G Gr Gc R :=
  h.kb hk (fun x e => by omega) (blk_ty h.loan hx (by decide)) (blk_ty h.man hx (by decide)) (blk_ty h.res hx (by decide)) hp (fun x hy e => own_not h.rr hx (by decide) (by rw [hy, e])) (fun x hy e => own_not h.rc hx (by decide) (by rw [hy, e])) (h.gs_ne hx (by decide))
theorem kb_set (w : World) (g i : Nat) (v : Value) : KB (fun x => x = g) w (w.setCell ⟨g, i, none⟩ v) := KB.of (grown_set w g i v) (fun x e => by injection e with e; exact e.symm)
theorem LS.cells {wA w : World} {lb mb ob pb : Nat} {f : Int} {pv cv : Value} {ps : List PartD} {k : Nat} {rgv ctv chv : Value} {G Gr Gc : List Nat} {R : List Value} (h : LS wA w lb mb ob pb f pv cv ps k rgv ctv chv G Gr Gc R) (hk : k < ps.length + 8) (j : Nat) (hj : j < 5) : ∃ y, w.cell? ⟨pb, k * 5 + j, none⟩ = some y := by
  have h1 := h.dlen
  have h2 := h.rlen hk
  have hp := h.part
  rw [← List.append_assoc] at hp
  rw [cell_of_blk hp]
  have : k * 5 + j < (partsC ps G ++ rep badPC (k - ps.length) ++ R).toArray.size := by simp only [List.size_toArray, List.length_append] at *; omega
  exact ⟨_, Array.getElem?_eq_getElem this⟩
theorem LS.setCh {wA w : World} {lb mb ob pb : Nat} {f : Int} {pv cv : Value} {ps : List PartD} {k : Nat} {rgv ctv chv : Value} {G Gr Gc : List Nat} {R : List Value} (h : LS wA w lb mb ob pb f pv cv ps k rgv ctv chv G Gr Gc R) (v : Value) : LS wA (w.setCell ⟨lb, 3, none⟩ v) lb mb ob pb f pv cv ps k rgv ctv v G Gr Gc R := by
  have n2 : mb ≠ lb := blk_ty h.man h.loan (by decide)
  have n3 : ob ≠ lb := blk_ty h.res h.loan (by decide)
  have n4 : pb ≠ lb := blk_ty h.part h.loan (by decide)
  exact ⟨by rw [blk_set 3 _ h.loan]; rfl, by rw [blk_far _ _ n2]; exact h.man, by rw [blk_far _ _ n3]; exact h.res, by rw [blk_far _ _ n4]; exact h.part, h.gl, h.rl, own_other h.rr h.loan (by decide) 3 v, own_other h.rc h.loan (by decide) 3 v, h.rg,
    fun j hj hj' => ⟨by rw [blk_far _ _ (blk_ty (h.blk j hj hj').1 h.loan (by decide))]; exact (h.blk j hj hj').1, (h.blk j hj hj').2⟩, h.low.setCell h.ord.1 _, h.ord⟩
theorem LS.kbChan {wA w w' : World} {lb mb ob pb gb : Nat} {f : Int} {pv cv : Value} {ps : List PartD} {k : Nat} {rgv ctv chv : Value} {G Gr Gc : List Nat} {R : List Value} {c : Array Value} (h : LS wA w lb mb ob pb f pv cv ps k rgv ctv chv G Gr Gc R) (hg : w.heap[gb]? = some (.cells c 92 (0, 0))) (hb : wA.heap.size ≤ gb) (hk : KB (fun x => x = gb) w w') : LS wA w' lb mb ob pb f pv cv ps k rgv ctv chv G Gr Gc R :=
  h.kb hk (fun x e => by omega) (blk_ty h.loan hg (by decide)) (blk_ty h.man hg (by decide)) (blk_ty h.res hg (by decide)) (blk_ty h.part hg (by decide)) (fun x hx e => own_not h.rr hg (by decide) (by rw [hx, e])) (fun x hx e => own_not h.rc hg (by decide) (by rw [hx, e])) (h.gs_ne hg (by decide))
theorem chan_row {w : World} {gb k : Nat} {D R : List Value} {vs : List Value} (hD : D.length = k * 6) (hv : vs.length = 6) (hR : 6 ≤ R.length) (h : w.heap[gb]? = some (.cells (D ++ R).toArray 92 (0, 0))) :
    (w.setCells gb (k * 6) vs).heap[gb]? = some (.cells (D ++ (vs ++ R.drop 6)).toArray 92 (0, 0)) := by
  have key : ∀ (vs : List Value) (w : World) (o : Nat) (L : List Value), w.heap[gb]? = some (.cells L.toArray 92 (0, 0)) → (w.setCells gb o vs).heap[gb]? = some (.cells (setL L o vs).toArray 92 (0, 0)) := by
    intro vs
    induction vs with
    | nil => intro w o L h; exact h
    | cons v r ih =>
      intro w o L h
      refine ih _ _ _ ?_
      rw [blk_set o v h]; simp
  have h1 := key vs w (k * 6) (D ++ R) h
  have e : D ++ R = D ++ (R.take 6 ++ R.drop 6) := by rw [List.take_append_drop]
  rw [e, ← hD, setL_mid _ _ _ _ (by rw [List.length_take, hv]; omega)] at h1
  rw [← hD]; exact h1
/- what was lent: the loan, when 'lent' has ended -/
structure LO (wA w : World) (lb pb hb : Nat) (f : Int) (pv cv : Value) (ps : List PartD) (cs : List ChanD) (rgv ctv : Value) (G : List Nat) : Prop where
  loan : w.heap[lb]? = some (.cells #[rgv, ctv, .slice (some ⟨pb, 0, none⟩) (ps.length + 8) (ps.length + 8), .slice (some ⟨hb, 0, none⟩) (cs.length + 8) (cs.length + 8), .int .i64 f, pv, cv] 186 (0, 0))
  part : w.heap[pb]? = some (.cells (partsC ps G ++ rep badPC 8).toArray 42 (0, 0))
  chan : w.heap[hb]? = some (.cells (chansC cs ++ rep badCC 8).toArray 92 (0, 0))
  gl : G.length = ps.length
  rr : w.ownsRow wA.heap.size 40 1 rgv G.length (rgL ps G)
  rc : w.ownsRow wA.heap.size 3 1 ctv G.length (ctL ps G)
  blk : ∀ j (h : j < G.length) (h' : j < ps.length), w.heap[G[j]]? = some (.cells (regsC ps[j].regs ++ rep badRC 8).toArray 90 (0, 0))
  low : Below wA.heap.size wA w
theorem LS.done {wA w : World} {lb mb ob pb hb : Nat} {f : Int} {pv cv : Value} {ps : List PartD} {cs : List ChanD} {rgv ctv : Value} {G : List Nat} {R : List Value} (h : LS wA w lb mb ob pb f pv cv ps (ps.length + 8) rgv ctv (.slice (some ⟨hb, 0, none⟩) (cs.length + 8) (cs.length + 8)) G G G R) (hg : w.heap[hb]? = some (.cells (chansC cs ++ rep badCC 8).toArray 92 (0, 0))) : LO wA w lb pb hb f pv cv ps cs rgv ctv G := by
  have hR : R = [] := List.eq_nil_of_length_eq_zero (by rw [h.rl]; simp)
  subst hR
  have hp := h.part
  rw [Nat.add_sub_cancel_left, List.append_nil] at hp
  exact ⟨h.loan, hp, hg, by have := h.gl; omega, h.rr, h.rc, fun j hj hj' => (h.blk j hj hj').1, h.low⟩
theorem LO.kb {wA w w' : World} {lb pb hb : Nat} {f : Int} {pv cv : Value} {ps : List PartD} {cs : List ChanD} {rgv ctv : Value} {G : List Nat} {A : Nat → Prop} (h : LO wA w lb pb hb f pv cv ps cs rgv ctv G) (hk : KB A w w') (hlo : ∀ x, A x → wA.heap.size ≤ x) (hA : ∀ x, A x → ∃ c, w.heap[x]? = some (.cells c 34 (0, 0))) : LO wA w' lb pb hb f pv cv ps cs rgv ctv G := by
  have ne : ∀ {y T : Nat} {a : Array Value}, w.heap[y]? = some (.cells a T (0, 0)) → T ≠ 34 → ¬ A y := fun hy hT ha => by
    obtain ⟨c, hc⟩ := hA _ ha
    exact blk_ty hy hc hT rfl
  refine ⟨(hk.block _ (lt_of_blk h.loan) (ne h.loan (by decide))).trans h.loan, (hk.block _ (lt_of_blk h.part) (ne h.part (by decide))).trans h.part, (hk.block _ (lt_of_blk h.chan) (ne h.chan (by decide))).trans h.chan, h.gl, KB.own h.rr hk (fun x hx ha => ?_), KB.own h.rc hk (fun x hx ha => ?_), fun j hj hj' => (hk.block _ (lt_of_blk (h.blk j hj hj')) (ne (h.blk j hj hj') (by decide))).trans (h.blk j hj hj'), h.low.trans (hk.toBelow h.low.size hlo)⟩
  · obtain ⟨c, hc⟩ := hA _ ha
    exact own_not h.rr hc (by decide) hx
  · obtain ⟨c, hc⟩ := hA _ ha
    exact own_not h.rc hc (by decide) hx
theorem LO.below {wA w w' : World} {lb pb hb : Nat} {f : Int} {pv cv : Value} {ps : List PartD} {cs : List ChanD} {rgv ctv : Value} {G : List Nat} (h : LO wA w lb pb hb f pv cv ps cs rgv ctv G) (hbl : Below w.heap.size w w') : LO wA w' lb pb hb f pv cv ps cs rgv ctv G :=
  h.kb (A := fun _ => False) (KB.below hbl) (fun _ e => e.elim) (fun _ e => e.elim)
theorem LO.parts {wA w : World} {lb pb hb : Nat} {f : Int} {pv cv : Value} {ps : List PartD} {cs : List ChanD} {rgv ctv : Value} {G : List Nat} (h : LO wA w lb pb hb f pv cv ps cs rgv ctv G) : PartsV w (.slice (some ⟨pb, 0, none⟩) ps.length (ps.length + 8)) ps := by
  refine ⟨_, _, rfl, fun i hi => ?_⟩
  have hgi : i < G.length := by rw [h.gl]; exact hi
  have at_ : ∀ j, j < 5 → w.cell? ⟨pb, 0 + i * 5 + j, none⟩ = (partC ps[i] G[i])[j]? := by
    intro j hj
    rw [cell_of_blk h.part]
    rw [List.getElem?_toArray, List.getElem?_append_left (by rw [partsC_len _ _ (by rw [h.gl]; exact Nat.le_refl _), h.gl]; omega), Nat.zero_add]
    exact partsC_at ps G i j hgi (by rw [h.gl]; exact Nat.le_refl _) hj
  refine ⟨pb, 0, .slice (some ⟨G[i], 0, none⟩) ps[i].regs.length (ps[i].regs.length + 8), rfl, at_ 0 (by omega), at_ 1 (by omega), at_ 2 (by omega), at_ 3 (by omega), at_ 4 (by omega), ?_⟩
  refine ⟨_, _, rfl, fun q hq => ?_⟩
  have bt : ∀ j, j < 3 → w.cell? ⟨G[i], 0 + q * 3 + j, none⟩ = (regC ps[i].regs[q])[j]? := by
    intro j hj
    rw [cell_of_blk (h.blk i hgi hi)]
    rw [List.getElem?_toArray, List.getElem?_append_left (by rw [regsC_len]; omega), Nat.zero_add]
    exact regsC_at _ q j hq hj
  exact ⟨G[i], 0, rfl, bt 0 (by omega), bt 1 (by omega), bt 2 (by omega)⟩
theorem LO.chans {wA w : World} {lb pb hb : Nat} {f : Int} {pv cv : Value} {ps : List PartD} {cs : List ChanD} {rgv ctv : Value} {G : List Nat} (h : LO wA w lb pb hb f pv cv ps cs rgv ctv G) : ChansV w (.slice (some ⟨hb, 0, none⟩) cs.length (cs.length + 8)) cs := by
  refine ⟨_, _, rfl, fun i hi => ?_⟩
  have at_ : ∀ j, j < 6 → w.cell? ⟨hb, 0 + i * 6 + j, none⟩ = (chanC cs[i])[j]? := by
    intro j hj
    rw [cell_of_blk h.chan]
    rw [List.getElem?_toArray, List.getElem?_append_left (by rw [chansC_len]; omega), Nat.zero_add]
    exact chansC_at cs i j hi hj
  exact ⟨hb, 0, rfl, at_ 0 (by omega), at_ 1 (by omega), at_ 2 (by omega), at_ 3 (by omega), at_ 4 (by omega), at_ 5 (by omega)⟩
end Go.Proofs.YteioennfpkoagaaGreatDoor.C
namespace Go.Proofs.YteioennfpkoagaaGreatDoor.C
open Go.RowKit
attribute [local go_sem ↓] Go.wp_at_zero Go.wp_at_succ

set_option maxRecDepth 100000 in
set_option maxHeartbeats 1000000 in
theorem sameRegions_any (rs : List RegD) (a b : Value) (w : World) (ha : RegsV w a rs) (hb : RegsV w b rs) (hl : rs.length ≤ 4611686018427387903) :
    Calls Tryz.prog 136 #[a, b] w fun e w' => e = .returned (.bool true) ∧ Below w.heap.size w w' := by
  obtain ⟨va, ca, rfl, hca⟩ := ha
  obtain ⟨vb, cb, rfl, hcb⟩ := hb
  have HA : Hid _ := hca
  have HB : Hid _ := hcb
  clear hca hcb
  go_enter Tryz.func136, Tryz.ntmps136
  go_wp2_with fail
  go_loopw [5] (fun i wr => ∃ (k : Nat), i = .int .i64 k ∧ k ≤ rs.length ∧ Below w.heap.size w wr) (fun i _ => rs.length - (intOf i).toNat)
  case atStart => exact ⟨0, rfl, by omega, Below.refl _ _⟩
  case round =>
    obtain ⟨k, rfl, hk, hbel⟩ := hrel
    by_cases hlt : k < rs.length
    · have hlt' : (k : Int) < (rs.length : Int) := by omega
      have hk0 : (0 : Int) ≤ (k : Int) := by omega
      obtain ⟨ab, ao, rfl, c0, c1, c2⟩ := HA.out k hlt
      obtain ⟨bb, bo, rfl, e0, e1, e2⟩ := HB.out k hlt
      have hbl := World.block_lt_of_cell? w _ c0
      have hbl2 := World.block_lt_of_cell? w _ e0
      have d0 := (hbel.cell (by exact hbl)).trans c0
      have d1 := (hbel.cell (by exact hbl)).trans c1
      have d2 := (hbel.cell (by exact hbl)).trans c2
      have f0 := (hbel.cell (by exact hbl2)).trans e0
      have f1 := (hbel.cell (by exact hbl2)).trans e1
      have f2 := (hbel.cell (by exact hbl2)).trans e2
      clear c0 c1 c2 e0 e1 e2
      generalize rs[k] = r at *
      go_wp2_with fail
      go_quiet (fail)
      go_wp2_with fail
      go_roundw
      case rel => exact ⟨k + 1, by go_num, by omega, below_drewN hbel _⟩
      case measure => simp [intOf]; omega
    · have hlt' : ¬ (k : Int) < (rs.length : Int) := by omega
      go_wp2_with fail
      go_ret
      exact ⟨rfl, hbel⟩
set_option maxRecDepth 100000 in
set_option maxHeartbeats 1000000 in
theorem isBad_0 (w : World) :
    Calls Tryz.prog 43 #[.agg #[.string ⟨#[63, 63]⟩, .int .i64 (-1000), .int .i64 0, .int .i64 0, .slice none 0 0], .int .i64 0] w fun e w' => e = .returned (.bool true) ∧ Below w.heap.size w w' := by
  have h : IntKind.i64.wrap (-1000 - 0) = -1000 := by decide
  go_enter Tryz.func43, Tryz.ntmps43
  go_wp2_with fail
  go_ret
  exact ⟨rfl, (Below.refl _ w).alloc (Nat.le_refl _) _⟩
set_option maxRecDepth 100000 in
set_option maxHeartbeats 4000000 in
theorem samePartitions_any (ps : List PartD) (a b : Value) (w : World) (ha : PartsV w a ps) (hb : PartsV w b ps) (hl : ps.length ≤ 4611686018427387903) (hrl : ∀ k (h : k < ps.length), ps[k].regs.length ≤ 4611686018427387903) :
    Calls Tryz.prog 85 #[a, b] w fun e w' => e = .returned (.bool true) ∧ Below w.heap.size w w' := by
  obtain ⟨va, ca, rfl, hca⟩ := ha
  obtain ⟨vb, cb, rfl, hcb⟩ := hb
  have HA : Hid _ := hca
  have HB : Hid _ := hcb
  have HRL : Hid _ := hrl
  clear hca hcb hrl
  go_enter Tryz.func85, Tryz.ntmps85
  go_wp2_with fail
  go_loopw [5] (fun i wr => ∃ (k : Nat), i = .int .i64 k ∧ k ≤ ps.length ∧ Below w.heap.size w wr) (fun i _ => ps.length - (intOf i).toNat)
  case atStart => exact ⟨0, rfl, by omega, Below.refl _ _⟩
  case round =>
    obtain ⟨k, rfl, hk, hbel⟩ := hrel
    by_cases hlt : k < ps.length
    · have hlt' : (k : Int) < (ps.length : Int) := by omega
      have hk0 : (0 : Int) ≤ (k : Int) := by omega
      obtain ⟨ab, ao, ra, rfl, c0, c1, c2, c3, c4, hra⟩ := HA.out k hlt
      obtain ⟨bb, bo, rb, rfl, e0, e1, e2, e3, e4, hrb⟩ := HB.out k hlt
      have hbl := World.block_lt_of_cell? w _ c0
      have hbl2 := World.block_lt_of_cell? w _ e0
      have HRA : Hid _ := hra
      have HRB : Hid _ := hrb
      have hRL := HRL.out k hlt
      obtain ⟨x1, x2, rfl, hx⟩ := hra
      clear hx
      obtain ⟨z1, z2, rfl, hx⟩ := hrb
      clear hx
      generalize ps[k] = x at *
      have HS : ∀ w' : World, Below w.heap.size w w' → (w'.cell? ⟨ab, ao + k * 5 + 4, none⟩ = some (.slice x1 x.regs.length x2) ∧ w'.cell? ⟨bb, bo + k * 5 + 4, none⟩ = some (.slice z1 x.regs.length z2) ∧ Below w.heap.size w w') := fun w' hw => ⟨(hw.cell (by exact hbl)).trans c4, (hw.cell (by exact hbl2)).trans e4, hw⟩
      go_wp2_with fail
      have hB : Below w.heap.size w wr.drew := hbel.drew
      go_region_held3 (fun w' => w'.cell? ⟨ab, ao + k * 5 + 4, none⟩ = some (.slice x1 x.regs.length x2) ∧ w'.cell? ⟨bb, bo + k * 5 + 4, none⟩ = some (.slice z1 x.regs.length z2) ∧ Below w.heap.size w w') (first | exact HS _ hB) ((first
        | (go_at_call 136; refine (sameRegions_any x.regs _ _ _ (RegsV.below HRA.out hB) (RegsV.below HRB.out hB) hRL).mono ?_; rintro e w2 ⟨rfl, hb2⟩; have hB := hB.trans (hb2.mono hB.size))))
      clear HS
      have d0 := (hB.cell (by exact hbl)).trans c0
      have d1 := (hB.cell (by exact hbl)).trans c1
      have d2 := (hB.cell (by exact hbl)).trans c2
      have d3 := (hB.cell (by exact hbl)).trans c3
      have f0 := (hB.cell (by exact hbl2)).trans e0
      have f1 := (hB.cell (by exact hbl2)).trans e1
      have f2 := (hB.cell (by exact hbl2)).trans e2
      have f3 := (hB.cell (by exact hbl2)).trans e3
      clear c0 c1 c2 c3 c4 e0 e1 e2 e3 e4
      go_wp2_with fail
      go_quiet (fail)
      go_wp2_with fail
      go_roundw
      case rel => exact ⟨k + 1, by go_num, by omega, below_drewN hB _⟩
      case measure => simp [intOf]; omega
    · have hlt' : ¬ (k : Int) < (ps.length : Int) := by omega
      go_wp2_with fail
      go_ret
      exact ⟨rfl, hbel⟩
end Go.Proofs.YteioennfpkoagaaGreatDoor.C
