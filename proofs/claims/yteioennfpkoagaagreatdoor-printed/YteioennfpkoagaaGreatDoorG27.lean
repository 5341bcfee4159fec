import Derived.Test.YteioennfpkoagaaGreatDoorG25
import Derived.Test.YteioennfpkoagaaGreatDoorG14
import Derived.Test.YteioennfpkoagaaGreatDoorG26
namespace Go.Proofs.YteioennfpkoagaaGreatDoor
open Go.RowKit
attribute [local go_sem ↓] Go.wp_at_zero Go.wp_at_succ

/- how many lists come out -/
theorem regsR_len (l : List UInt8) (f : Nat) (r : RS) (acc : List Reg) : (regsR l f r acc).1.length ≤ acc.length + f := by
  induction f generalizing r acc with
  | zero => simp [regsR]
  | succ f ih =>
    simp only [regsR]; split
    · have := ih (regionR l r).2 (acc ++ [(regionR l r).1])
      simp only [List.length_append, List.length_singleton] at this
      omega
    · simp only []; omega
theorem partsR_len (l : List UInt8) (N f : Nat) (r : RS) (acc : List Part) : (partsR l N f r acc).1.length ≤ acc.length + f := by
  induction f generalizing r acc with
  | zero => simp [partsR]
  | succ f ih =>
    simp only [partsR]; split
    · have := ih (partitionR l N r).2 (acc ++ [(partitionR l N r).1])
      simp only [List.length_append, List.length_singleton] at this
      omega
    · simp only []; omega
theorem partsR_regs (l : List UInt8) (N f : Nat) (r : RS) (acc : List Part) (h : ∀ p ∈ acc, p.regs.length ≤ N) : ∀ p ∈ (partsR l N f r acc).1, p.regs.length ≤ N := by
  induction f generalizing r acc with
  | zero => simpa [partsR] using h
  | succ f ih =>
    simp only [partsR]; split
    · refine ih _ _ ?_
      intro p hp
      rw [List.mem_append] at hp
      rcases hp with hp | hp
      · exact h p hp
      · simp only [List.mem_singleton] at hp
        subst hp
        have := regsR_len l N (partHeadR l r).2 []
        simpa [partitionR] using this
    · exact h
theorem chansR_len (l : List UInt8) (ns : List (List UInt8)) (f : Nat) (r : RS) (acc : List Chan) : (chansR l ns f r acc).1.length ≤ acc.length + f := by
  induction f generalizing r acc with
  | zero => simp [chansR]
  | succ f ih =>
    simp only [chansR]; split
    · have := ih (channelR l ns r).2 (acc ++ [(channelR l ns r).1])
      simp only [List.length_append, List.length_singleton] at this
      omega
    · simp only []; omega
/- what Parse answers -/
structure Ans where
  f : Int
  ps : List Part
  cs : List Chan
  a : Int
  b : Int
  er : Nat
def outF (s : ByteArray) (N : Nat) : Ans := if 8192 < s.size then ⟨0, [], [], 0, 0, 14⟩ else if (parseR s.data.toList N).2.e ≠ 0 then ⟨0, [], [], (parseR s.data.toList N).2.ln, (parseR s.data.toList N).2.cl, (parseR s.data.toList N).2.e⟩ else ⟨(parseR s.data.toList N).1.frame, (parseR s.data.toList N).1.parts, (parseR s.data.toList N).1.chans, 0, 0, 0⟩
theorem out_len (s : ByteArray) (N : Nat) : (outF s N).ps.length ≤ N ∧ (∀ p ∈ (outF s N).ps, p.regs.length ≤ N) ∧ (outF s N).cs.length ≤ N := by
  unfold outF
  split
  · simp
  split
  · simp
  · refine ⟨?_, ?_, ?_⟩
    · have := partsR_len s.data.toList N N (mustR s.data.toList (numberR s.data.toList (mustR s.data.toList ⟨0, 0, 0, 0⟩ [kModule])).2 [kSemi]) []
      simpa [parseR] using this
    · exact partsR_regs s.data.toList N N (mustR s.data.toList (numberR s.data.toList (mustR s.data.toList ⟨0, 0, 0, 0⟩ [kModule])).2 [kSemi]) [] (by simp)
    · have := chansR_len s.data.toList ((partsR s.data.toList N N (mustR s.data.toList (numberR s.data.toList (mustR s.data.toList ⟨0, 0, 0, 0⟩ [kModule])).2 [kSemi]) []).1.map Part.name) N (partsR s.data.toList N N (mustR s.data.toList (numberR s.data.toList (mustR s.data.toList ⟨0, 0, 0, 0⟩ [kModule])).2 [kSemi]) []).2 []
      simpa [parseR] using this
theorem out_bd (s : ByteArray) (N : Nat) (h : s.size ≤ 8192 → N ≤ 8193) : (outF s N).ps.length ≤ 8193 ∧ (∀ p ∈ (outF s N).ps, p.regs.length ≤ 8193) ∧ (outF s N).cs.length ≤ 8193 := by
  by_cases hs : 8192 < s.size
  · have ho : outF s N = ⟨0, [], [], 0, 0, 14⟩ := if_pos hs
    rw [ho]; simp
  · have hN := h (by omega)
    obtain ⟨h1, h2, h3⟩ := out_len s N
    exact ⟨by omega, fun p hp => by have := h2 p hp; omega, by omega⟩
def ansV (o : Ans) (v cv : Value) : Value := .tuple #[.agg #[.int .i64 o.f, v, cv], .agg #[.int .i64 o.a, .int .i64 o.b], .int .i64 o.er]
theorem parts_nil (w : World) (base : Nat) : PartsAt w base (.slice none 0 0) [] [] := ⟨rfl, World.ownsRow_nil _ _ _ _, fun i h => absurd h (by simp)⟩
theorem manParse_out (w : World) (B : Nat) (ew en eu es ex : Addr) (N : Nat) (s : ByteArray) (hg : GL w B ew en eu es ex) (hN : TokN s.data.toList N) (hN2 : s.size ≤ 8192 → N ≤ 8193) :
    Calls Tryz.prog 13 #[.string s] w fun e w' => Below w.heap.size w w' ∧ ∃ v vs cv, e = .returned (ansV (outF s N) v cv) ∧ Hid (Sep vs) ∧ PartsAt w' w.heap.size v (outF s N).ps vs ∧ w'.ownsRow w.heap.size 92 6 cv (outF s N).cs.length (chanRows (outF s N).cs) := by
  by_cases hs : 8192 < s.size
  · have ho : outF s N = ⟨0, [], [], 0, 0, 14⟩ := if_pos hs
    rw [ho]
    refine (manParse_long s w hs).mono ?_
    rintro e w' ⟨rfl, hb⟩
    exact ⟨hb, _, [], _, rfl, List.Pairwise.nil, parts_nil _ _, World.ownsRow_nil _ _ _ _⟩
  · refine (manParse_any w B ew en eu es ex N s hg (by omega) hN (hN2 (by omega))).mono ?_
    rintro e w' ⟨hb, ⟨he, rfl⟩ | ⟨he, v, vs, cv, rfl, hsp, hpa, hco⟩⟩
    · have ho : outF s N = ⟨0, [], [], (parseR s.data.toList N).2.ln, (parseR s.data.toList N).2.cl, (parseR s.data.toList N).2.e⟩ := by unfold outF; rw [if_neg hs, if_pos he]
      rw [ho]
      exact ⟨hb, _, [], _, rfl, List.Pairwise.nil, parts_nil _ _, World.ownsRow_nil _ _ _ _⟩
    · have ho : outF s N = ⟨(parseR s.data.toList N).1.frame, (parseR s.data.toList N).1.parts, (parseR s.data.toList N).1.chans, 0, 0, 0⟩ := by unfold outF; rw [if_neg hs, if_neg (by simp [he])]
      rw [ho]
      exact ⟨hb, v, vs, cv, rfl, hsp, hpa, hco⟩
theorem refParse_out (w : World) (N : Nat) (s : ByteArray) (hN : TokN s.data.toList N) :
    Calls Tryz.prog 36 #[.string s] w fun e w' => Below w.heap.size w w' ∧ ∃ v vs cv, e = .returned (ansV (outF s N) v cv) ∧ PartsAt w' w.heap.size v (outF s N).ps vs ∧ w'.ownsRow w.heap.size 92 6 cv (outF s N).cs.length (chanRows (outF s N).cs) := by
  by_cases hs : 8192 < s.size
  · have ho : outF s N = ⟨0, [], [], 0, 0, 14⟩ := if_pos hs
    rw [ho]
    refine (refParse_long s w hs).mono ?_
    rintro e w' ⟨rfl, hb⟩
    exact ⟨hb, _, [], _, rfl, parts_nil _ _, World.ownsRow_nil _ _ _ _⟩
  · refine (refParse_any s w (by omega)).mono ?_
    rintro e w' ⟨hb, M, hM, hc⟩
    obtain rfl := tokN_eq hN hM
    rcases hc with ⟨he, rfl⟩ | ⟨he, v, vs, cv, rfl, hpa, hco⟩
    · have ho : outF s N = ⟨0, [], [], (parseR s.data.toList N).2.ln, (parseR s.data.toList N).2.cl, (parseR s.data.toList N).2.e⟩ := by unfold outF; rw [if_neg hs, if_pos he]
      rw [ho]
      exact ⟨hb, _, [], _, rfl, parts_nil _ _, World.ownsRow_nil _ _ _ _⟩
    · have ho : outF s N = ⟨(parseR s.data.toList N).1.frame, (parseR s.data.toList N).1.parts, (parseR s.data.toList N).1.chans, 0, 0, 0⟩ := by unfold outF; rw [if_neg hs, if_neg (by simp [he])]
      rw [ho]
      exact ⟨hb, v, vs, cv, rfl, hpa, hco⟩
theorem book_old {w : World} {B bb : Nat} {rv pv cv : Value} {R P C : List Value} (h : BookOK w B bb rv pv cv R P C) : (∀ x ∈ R, ∀ g, x.ownBlock = some g → g < w.heap.size) ∧ (∀ x ∈ P, ∀ g, x.ownBlock = some g → g < w.heap.size) ∧ (∀ x ∈ C, ∀ g, x.ownBlock = some g → g < w.heap.size) := by
  refine ⟨?_, ?_, ?_⟩
  · intro x hx g hg
    obtain ⟨i, hi, rfl⟩ := List.getElem_of_mem hx
    obtain ⟨n, _, ho⟩ := h.kR i hi
    exact (ho.lt g hg).2
  · intro x hx g hg
    obtain ⟨i, hi, rfl⟩ := List.getElem_of_mem hx
    obtain ⟨n, _, ho⟩ := h.kP i hi
    exact (ho.lt g hg).2
  · intro x hx g hg
    obtain ⟨i, hi, rfl⟩ := List.getElem_of_mem hx
    obtain ⟨n, _, ho⟩ := h.kC i hi
    exact (ho.lt g hg).2

set_option maxRecDepth 100000 in
set_option maxHeartbeats 4000000 in
theorem parsed_true (w : World) (B bb : Nat) (ew en eu es ex : Addr) (rv pv cv : Value) (R P C : List Value) (s : ByteArray) (hg : GL w B ew en eu es ex) (hb : BookOK w B bb rv pv cv R P C) (hRl : R.length ≤ 800000000000) (hPl : P.length ≤ 800000000000) (hCl : C.length ≤ 800000000000) :
    Calls Tryz.prog 12 #[.pointer (some ⟨bb, 0, none⟩), .string s] w fun e w' => e = .returned (.bool true) ∧ ∃ rv' pv' cv' R' P' C', BookOK w' B bb rv' pv' cv' R' P' C' ∧ R'.length ≤ R.length + 32772 ∧ P'.length = P.length + 4 ∧ C'.length = C.length + 4 ∧ Below B w w' := by
  obtain ⟨N, hN, hNl⟩ := tokN_ex s.data.toList
  have hN2 : s.size ≤ 8192 → N ≤ 8193 := fun h => by simp at hNl; omega
  obtain ⟨hp1, hp2, hp3⟩ := out_bd s N hN2
  have hm := manParse_out w B ew en eu es ex N s hg hN hN2
  have hr := fun X => refParse_out X N s hN
  clear hN hN2 hNl
  generalize outF s N = o at *
  obtain ⟨f, ps, cs, a, b, er⟩ := o
  unfold ansV at hm hr
  simp only [] at hm hr hp1 hp2 hp3
  have HR : Hid _ := hr
  have HP2 : Hid _ := hp2
  have HOLD : Hid _ := book_old hb
  have hBs : B ≤ w.heap.size := hg.size
  clear hr hp2 hg
  go_enter Tryz.func12, Tryz.ntmps12
  go_wp2_with fail
  refine hm.mono ?_
  rintro e W1 ⟨hb1, v, vs, u, rfl, HSP, hpa1, hco1⟩
  clear hm
  obtain ⟨va, vc, rfl⟩ := own_shape hpa1.2.1
  obtain ⟨ua, uc, rfl⟩ := own_shape hco1
  go_wp2_with fail
  have hb2 : Below W1.heap.size W1 ((W1.alloc (.cells #[.int .i64 f, .slice va ps.length vc, .slice ua cs.length uc] 34)).alloc (.cells #[.int .i64 a, .int .i64 b] 36)) := ((Below.refl _ _).alloc (Nat.le_refl _) _).alloc (by simp) _
  have m2 : ((W1.alloc (.cells #[.int .i64 f, .slice va ps.length vc, .slice ua cs.length uc] 34)).alloc (.cells #[.int .i64 a, .int .i64 b] 36)).heap[W1.heap.size]? = some (.cells #[.int .i64 f, .slice va ps.length vc, .slice ua cs.length uc] 34 (0, 0)) := by rw [Below.heap_alloc _ _ _ (by simp), heap_new]
  have p2 := heap_new2 W1 (.cells #[.int .i64 f, .slice va ps.length vc, .slice ua cs.length uc] 34) (.cells #[.int .i64 a, .int .i64 b] 36)
  generalize (W1.alloc (.cells #[.int .i64 f, .slice va ps.length vc, .slice ua cs.length uc] 34)).alloc (.cells #[.int .i64 a, .int .i64 b] 36) = W2 at *
  refine (HR.out W2).mono ?_
  rintro e W3 ⟨hb3, v3, vs3, u3, rfl, hpa3, hco3⟩
  obtain ⟨va3, vc3, rfl⟩ := own_shape hpa3.2.1
  obtain ⟨ua3, uc3, rfl⟩ := own_shape hco3
  have m3 := (hb3.block _ (lt_of_blk m2)).trans m2
  have p3 := (hb3.block _ (lt_of_blk p2)).trans p2
  have l3 := lt_of_blk m3
  have l3p := lt_of_blk p3
  have x0 : W3.cell? ⟨W1.heap.size, 0, none⟩ = some (.int .i64 f) := by rw [cell_of_blk m3]; rfl
  have x1 : W3.cell? ⟨W1.heap.size, 1, none⟩ = some (.slice va ps.length vc) := by rw [cell_of_blk m3]; rfl
  have x2 : W3.cell? ⟨W1.heap.size, 2, none⟩ = some (.slice ua cs.length uc) := by rw [cell_of_blk m3]; rfl
  go_wp2_with fail
  have hb4 : Below W3.heap.size W3 ((W3.alloc (.cells #[.int .i64 f, .slice va3 ps.length vc3, .slice ua3 cs.length uc3] 34)).alloc (.cells #[.int .i64 a, .int .i64 b] 36)) := ((Below.refl _ _).alloc (Nat.le_refl _) _).alloc (by simp) _
  have q4 := heap_new2 W3 (.cells #[.int .i64 f, .slice va3 ps.length vc3, .slice ua3 cs.length uc3] 34) (.cells #[.int .i64 a, .int .i64 b] 36)
  generalize (W3.alloc (.cells #[.int .i64 f, .slice va3 ps.length vc3, .slice ua3 cs.length uc3] 34)).alloc (.cells #[.int .i64 a, .int .i64 b] 36) = W4 at *
  have m4 := (hb4.block _ l3).trans m3
  have p4 := (hb4.block _ l3p).trans p3
  have s12 := hb2.size
  have s23 := hb3.size
  have s34 := hb4.size
  have s01 := hb1.size
  have b14 : Below W1.heap.size W1 W4 := (hb2.trans (hb3.mono s12)).trans (hb4.mono (by omega))
  have hpa4 : PartsAt W4 w.heap.size (.slice va ps.length vc) ps vs := hpa1.kept (grown_below b14 none) (by simp)
  have hco4 := own_kept hco1 (grown_below b14 none) (by simp)
  have hpb4 : PartsAt W4 W2.heap.size (.slice va3 ps.length vc3) ps vs3 := hpa3.kept (grown_below hb4 none) (by simp)
  have hcb4 := own_kept hco3 (grown_below hb4 none) (by simp)
  have b04 : Below w.heap.size w W4 := hb1.trans (b14.mono s01)
  clear x0 x1 x2 m3 p3 hpa1 hco1 hpa3 hco3 m2 p2
  refine (same_true W4 _ _ f _ _ _ _ ps vs vs3 cs (by omega) (fun p hp => by have := HP2.out p hp; omega) (by omega) hpa4 hpb4 hco4 hcb4).mono ?_
  rintro e W5 ⟨rfl, hb5⟩
  have l4 := lt_of_blk m4
  have l4p := lt_of_blk p4
  have l4q := lt_of_blk q4
  have m5 := (hb5.block _ l4).trans m4
  have p5 := (hb5.block _ l4p).trans p4
  have q5 := (hb5.block _ l4q).trans q4
  have hpa5 := hpa4.kept (grown_below hb5 none) (by simp)
  have hco5 := own_kept hco4 (grown_below hb5 none) (by simp)
  have b05 : Below w.heap.size w W5 := b04.trans (hb5.mono b04.size)
  have hbk5 := hb.below b05
  have x0 : W5.cell? ⟨W1.heap.size, 0, none⟩ = some (.int .i64 f) := by rw [cell_of_blk m5]; rfl
  have x1 : W5.cell? ⟨W1.heap.size, 1, none⟩ = some (.slice va ps.length vc) := by rw [cell_of_blk m5]; rfl
  have x2 : W5.cell? ⟨W1.heap.size, 2, none⟩ = some (.slice ua cs.length uc) := by rw [cell_of_blk m5]; rfl
  clear hpa4 hco4 hpb4 hcb4 m4 p4 q4
  go_wp2_with fail
  refine (keep_any W5 B w.heap.size bb rv pv cv (.slice va ps.length vc) (.slice ua cs.length uc) R P C vs f ps cs hbk5 hpa5 HSP.out hco5 hBs HOLD.out.1 HOLD.out.2.1 HOLD.out.2.2 hp1 HP2.out hp3 (by omega) (by omega) (by omega)).mono ?_
  rintro e W6 ⟨rfl, rv', pv', cv', R', P', C', hb6, hR6, hP6, hC6, hbl6, hpl6⟩
  have p6 := hpl6 _ _ p5
  have q6 := hpl6 _ _ q5
  have y0 : W6.cell? ⟨W1.heap.size + 1, 0, none⟩ = some (.int .i64 a) := by rw [cell_of_blk p6]; rfl
  have y1 : W6.cell? ⟨W1.heap.size + 1, 1, none⟩ = some (.int .i64 b) := by rw [cell_of_blk p6]; rfl
  have z0 : W6.cell? ⟨W3.heap.size + 1, 0, none⟩ = some (.int .i64 a) := by rw [cell_of_blk q6]; rfl
  have z1 : W6.cell? ⟨W3.heap.size + 1, 1, none⟩ = some (.int .i64 b) := by rw [cell_of_blk q6]; rfl
  clear x0 x1 x2
  go_wp2_with fail
  go_ret
  exact ⟨by simp, rv', pv', cv', R', P', C', hb6, by omega, hP6, hC6, (b05.mono hBs).trans hbl6⟩
end Go.Proofs.YteioennfpkoagaaGreatDoor
