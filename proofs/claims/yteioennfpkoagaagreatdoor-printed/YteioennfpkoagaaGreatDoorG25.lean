import Derived.Test.YteioennfpkoagaaGreatDoorG14
import Derived.Test.YteioennfpkoagaaGreatDoorG24
namespace Go.Proofs.YteioennfpkoagaaGreatDoor
open Go.RowKit
attribute [local go_sem ↓] Go.wp_at_zero Go.wp_at_succ

theorem Sep.ne {vs : List Value} (h : Sep vs) {k j : Nat} (hk : k < vs.length) (hj : j < vs.length) (hlt : k < j) {x : Nat} (hx : vs[k].ownBlock = some x) : vs[j].ownBlock ≠ some x :=
  List.pairwise_iff_getElem.1 h k j hk hj hlt x hx
/- places stand -/
def PL (w w' : World) : Prop := ∀ (k : Nat) (o : Array Value), w.heap[k]? = some (.cells o 36 (0, 0)) → w'.heap[k]? = some (.cells o 36 (0, 0))
theorem PL.trans {a b d : World} (h : PL a b) (k : PL b d) : PL a d := fun i o hi => k i o (h i o hi)
theorem PL.below {w w' : World} (h : Below w.heap.size w w') : PL w w' := fun k o hk => by rw [h.block k (lt_of_blk hk)]; exact hk
theorem PL.keep {w w' : World} {B bb e e' size n size' n' : Nat} {rv l : Value} {xs xs' : List Value} {o : Array Value} (hk : KB (fun x => x = bb ∨ rv.ownBlock = some x ∨ l.ownBlock = some x) w w') (hb : w.heap[bb]? = some (.cells o 29 (0, 0))) (hr : w.ownsRow B e size rv n xs) (hl : w.ownsRow B e' size' l n' xs') (h1 : e ≠ 36) (h2 : e' ≠ 36) : PL w w' := fun k p hp => by
  rw [hk.block k (lt_of_blk hp) ?_]
  · exact hp
  · rintro (rfl | hA | hA)
    · rw [hb] at hp; simp at hp
    · exact own_not hr hp h1 hA
    · exact own_not hl hp h2 hA
/- In the midst of keep: k lists of regions are kept. -/
structure KL (w0 wr : World) (B Bp bb M k : Nat) (rv pv cv v u : Value) (R P C vs : List Value) (f : Int) (ps : List Part) (cs : List Chan) : Prop where
  bk : BookOK wr B bb rv pv cv R P C
  mb : wr.heap[M]? = some (.cells #[.int .i64 f, v, u] 34 (0, 0))
  row : wr.ownsRow Bp 42 5 v ps.length (partRows ps vs)
  rg : ∀ j (h : j < ps.length) (h' : j < vs.length), k ≤ j → wr.ownsRow Bp 90 3 vs[j] ps[j].regs.length (regRows ps[j].regs)
  ch : wr.ownsRow Bp 92 6 u cs.length (chanRows cs)
  bl : Below B w0 wr
  pl : PL w0 wr
  fr : ∀ x ∈ R, ∀ g, x.ownBlock = some g → ∀ j (h' : j < vs.length), k ≤ j → vs[j].ownBlock ≠ some g
theorem KL.round {w0 wr w' : World} {B Bp bb M k : Nat} {rv rv' pv cv v u a1 a2 a3 : Value} {R P C vs : List Value} {f : Int} {ps : List Part} {cs : List Chan} (h : KL w0 wr B Bp bb M k rv pv cv v u R P C vs f ps cs) (hBp : B ≤ Bp) (hsep : Sep vs) (hpl : ps.length = vs.length) (hk : k < vs.length)
    (hb : BookOK w' B bb rv' pv cv (R ++ [vs[k], a1, a2, a3]) P C) (hkb : KB (fun x => x = bb ∨ rv.ownBlock = some x ∨ vs[k].ownBlock = some x) wr w')
    (hnew : ∀ u ∈ [vs[k], a1, a2, a3], ∀ x, u.ownBlock = some x → vs[k].ownBlock = some x ∨ wr.heap.size ≤ x) : KL w0 w' B Bp bb M (k + 1) rv' pv cv v u (R ++ [vs[k], a1, a2, a3]) P C vs f ps cs := by
  have hrk := h.rg k (by omega) hk (Nat.le_refl _)
  have hbs : B ≤ wr.heap.size := by have := h.bk.hB; have := lt_of_blk h.bk.blk; omega
  have key : ∀ {e' base' size' n' : Nat} {v' : Value} {xs' : List Value}, wr.ownsRow base' e' size' v' n' xs' → e' ≠ 29 → e' ≠ 40 → (e' = 90 → ∀ x, vs[k].ownBlock = some x → v'.ownBlock ≠ some x) → w'.ownsRow base' e' size' v' n' xs' := by
    intro e' base' size' n' v' xs' ho h1 h2 h3
    refine KB.own ho hkb (fun x hx hA => ?_)
    rcases hA with rfl | hA | hA
    · exact own_not ho h.bk.blk h1 hx
    · exact own_types ho h.bk.rR h2 hx hA
    · by_cases he : e' = 90
      · exact h3 he x hA hx
      · exact own_types ho hrk he hx hA
  refine ⟨hb, ?_, key h.row (by decide) (by decide) (fun e => absurd e (by decide)), ?_, key h.ch (by decide) (by decide) (fun e => absurd e (by decide)), ?_, h.pl.trans (PL.keep hkb h.bk.blk h.bk.rR (own_mono hrk hBp) (by decide) (by decide)), ?_⟩
  · rw [hkb.block M (lt_of_blk h.mb) ?_]
    · exact h.mb
    · rintro (rfl | hA | hA)
      · have h1 := h.mb; rw [h.bk.blk] at h1; simp at h1
      · exact own_not h.bk.rR h.mb (by decide) hA
      · exact own_not hrk h.mb (by decide) hA
  · intro j h1 h2 h3
    exact key (h.rg j h1 h2 (by omega)) (by decide) (by decide) (fun _ x hx => hsep.ne hk h2 (by omega) hx)
  · refine h.bl.trans (hkb.toBelow hbs ?_)
    rintro x (rfl | hA | hA)
    · exact h.bk.hB
    · exact (h.bk.rR.lt x hA).1
    · have := (hrk.lt x hA).1; omega
  · intro x hx g hg j h' hj
    rw [List.mem_append] at hx
    rcases hx with hx | hx
    · exact h.fr x hx g hg j h' (by omega)
    · rcases hnew x hx g hg with e | e
      · exact hsep.ne hk h' (by omega) e
      · intro hx2
        have := ((h.rg j (by omega) h' (by omega)).lt g hx2).2
        omega
/- the rest of the list's blocks are not the manifest's, nor the channels' -/
theorem kb_mani {A : Nat → Prop} {w w' : World} {M : Nat} {o : Array Value} (h : w.heap[M]? = some (.cells o 34 (0, 0))) (hk : KB A w w') (hA : ¬ A M) : w'.heap[M]? = some (.cells o 34 (0, 0)) := by
  rw [hk.block M (lt_of_blk h) hA]; exact h

set_option maxRecDepth 100000 in
set_option maxHeartbeats 4000000 in
theorem keep_any (w : World) (B Bp bb : Nat) (rv pv cv v u : Value) (R P C vs : List Value) (f : Int) (ps : List Part) (cs : List Chan) (hb : BookOK w B bb rv pv cv R P C) (hpa : PartsAt w Bp v ps vs) (hsep : Sep vs) (hco : w.ownsRow Bp 92 6 u cs.length (chanRows cs))
    (hBp : B ≤ Bp) (hoR : ∀ x ∈ R, ∀ g, x.ownBlock = some g → g < Bp) (hoP : ∀ x ∈ P, ∀ g, x.ownBlock = some g → g < Bp) (hoC : ∀ x ∈ C, ∀ g, x.ownBlock = some g → g < Bp)
    (hpl : ps.length ≤ 8193) (hrl : ∀ p ∈ ps, p.regs.length ≤ 8193) (hcl : cs.length ≤ 8193) (hRl : R.length + 4 * ps.length ≤ 900000000000) (hPl : P.length ≤ 900000000000) (hCl : C.length ≤ 900000000000) :
    Calls Tryz.prog 38 #[.pointer (some ⟨bb, 0, none⟩), .agg #[.int .i64 f, v, u]] w fun e w' => e = .returned (.tuple #[]) ∧ ∃ rv' pv' cv' R' P' C', BookOK w' B bb rv' pv' cv' R' P' C' ∧ R'.length = R.length + 4 * ps.length ∧ P'.length = P.length + 4 ∧ C'.length = C.length + 4 ∧ Below B w w' ∧ PL w w' := by
  obtain ⟨va, vc, rfl⟩ := own_shape hpa.2.1
  obtain ⟨ua, uc, rfl⟩ := own_shape hco
  obtain ⟨pa, pc, rfl⟩ := own_shape hb.rP
  obtain ⟨ca, cc, rfl⟩ := own_shape hb.rC
  obtain ⟨i0, hi0, hz0, hz1, hz2⟩ := info_parts infoPartition
  obtain ⟨j0, hj0, hy0, hy1, hy2⟩ := info_parts infoPartitions
  obtain ⟨i1, hi1, hx0, hx1, hx2⟩ := info_parts infoChannel
  obtain ⟨j1, hj1, ht0, ht1, ht2⟩ := info_parts infoChannels
  have HSP : Hid _ := hsep
  have HRL : Hid _ := hrl
  have HOR : Hid _ := hoR
  have HOP : Hid _ := hoP
  have HOC : Hid _ := hoC
  have HVL : Hid (ps.length = vs.length) := hpa.1
  have HBS : Hid (B ≤ w.heap.size) := by have := hb.hB; have := lt_of_blk hb.blk; show _ ≤ _; omega
  clear hsep hrl hoR hoP hoC
  have HQP : Hid _ := quo4 P.length
  have HQC : Hid _ := quo4 C.length
  go_enter Tryz.func38, Tryz.ntmps38
  go_wp2_with fail
  have hba : Below w.heap.size w (w.alloc (.cells #[.int .i64 f, .slice va ps.length vc, .slice ua cs.length uc] 34)) := (Below.refl _ _).alloc (Nat.le_refl _) _
  have hkl : KL w (w.alloc (.cells #[.int .i64 f, .slice va ps.length vc, .slice ua cs.length uc] 34)) B Bp bb w.heap.size 0 rv (.slice pa P.length pc) (.slice ca C.length cc) (.slice va ps.length vc) (.slice ua cs.length uc) R P C vs f ps cs :=
    ⟨hb.below hba, heap_new _ _, hpa.2.1.alloc _, fun j h h' _ => (hpa.2.2 j h h').alloc _, hco.alloc _, hba.mono HBS.out, PL.below hba, fun x hx g hg j h' _ hj => by have h1 := HOR.out x hx g hg; have h2 := ((hpa.2.2 j (by have := HVL.out; omega) h').lt g hj).1; omega⟩
  generalize w.alloc (.cells #[.int .i64 f, .slice va ps.length vc, .slice ua cs.length uc] 34) = W0 at *
  have hMn : ∀ x, x = w.heap.size → x = x := fun _ _ => rfl
  clear hMn hba hpa hco hb
  generalize w.heap.size = M at *
  go_loopw [4] (fun i wr => ∃ (k : Nat) (rv : Value) (R' : List Value), i = .int .i64 k ∧ k ≤ ps.length ∧ KL w wr B Bp bb M k rv (.slice pa P.length pc) (.slice ca C.length cc) (.slice va ps.length vc) (.slice ua cs.length uc) R' P C vs f ps cs ∧ R'.length = R.length + 4 * k) (fun i _ => ps.length - (intOf i).toNat)
  case atStart => exact ⟨0, rv, R, rfl, by omega, hkl, by simp⟩
  case round =>
    obtain ⟨k, rw', R', rfl, hk, hkl', hRL⟩ := hrel
    clear hkl
    have hkl := hkl'
    clear hkl'
    have m1 : wr.cell? ⟨M, 1, none⟩ = some (.slice va ps.length vc) := by rw [cell_of_blk hkl.mb]; rfl
    have m2 : wr.cell? ⟨M, 2, none⟩ = some (.slice ua cs.length uc) := by rw [cell_of_blk hkl.mb]; rfl
    by_cases hlt : k < ps.length
    · have hkv : k < vs.length := by have := HVL.out; omega
      rcases own_nil_or hkl.row with ⟨h0, _⟩ | ⟨g, cap, e1⟩
      · omega
      cases e1
      obtain ⟨h', a0, a1, a2, a3, a4⟩ := partRows_cells ps vs HVL.out k hlt
      have d4 : wr.cell? ⟨g, k * 5 + 4, none⟩ = some vs[k] := by rw [own_cells hkl.row _ (by omega)]; exact a4
      clear a0 a1 a2 a3 a4
      have hown := hkl.rg k hlt hkv (Nat.le_refl _)
      obtain ⟨xa, xc, hx⟩ := own_shape hown
      have HX : Hid _ := hx
      have d4' := d4
      rw [hx] at d4'
      clear hx d4
      have hlt' : (k : Int) < (ps.length : Int) := by omega
      have hk0 : (0 : Int) ≤ (k : Int) := by omega
      have hrl' : ps[k].regs.length ≤ 8193 := HRL.out _ (List.getElem_mem hlt)
      have hkr := keepRegions_any wr B bb ps[k].regs.length rw' (.slice pa P.length pc) (.slice ca C.length cc) vs[k] R' P C _ hkl.bk (own_mono hown hBp) hrl' (by omega) (by have := hkl.bk.hB; have := lt_of_blk hkl.bk.blk; omega) (fun x hx g hg => hkl.fr x hx g hg k hkv (Nat.le_refl _))
      rw [HX.out] at hkr
      generalize ps[k].regs.length = nk at *
      go_wp2_with fail
      refine hkr.mono ?_
      rintro e w2 ⟨rfl, rv2, b1, b2, b3, hb2, hkb, hnew, _⟩
      rw [← HX.out] at hb2 hkb hnew
      have hkl2 := hkl.round hBp HSP.out HVL.out hkv hb2 hkb hnew
      clear hkl hown m1 m2 d4'
      go_wp2_with fail
      go_roundw
      case rel => exact ⟨k + 1, rv2, _, by go_num, by omega, hkl2, by simp; omega⟩
      case measure => simp [intOf]; omega
    · have hkn : k = ps.length := by omega
      clear hlt hk
      have hbk := hkl.bk
      have hrow := own_mono hkl.row hBp
      have hchn := own_mono hkl.ch hBp
      have hmbk := hkl.mb
      have hbelow := hkl.bl
      have HPL0 : Hid (PL w wr) := hkl.pl
      have hrowp := hkl.row
      have hchnp := hkl.ch
      have HPB : Hid (∀ x ∈ P, ∀ g, x.ownBlock = some g → (Value.slice va ps.length vc).ownBlock ≠ some g) := fun x hx g hg hv => by have h1 := HOP.out x hx g hg; have h2 := (hrowp.lt g hv).1; omega
      have c1 : wr.cell? ⟨bb, 1, none⟩ = some (.slice pa P.length pc) := by rw [cell_of_blk hbk.blk]; rfl
      have hbbl := lt_of_blk hbk.blk
      have hMbb : M ≠ bb := by
        rintro rfl
        have h1 := hmbk; rw [hbk.blk] at h1; simp at h1
      have hMrow : (Value.slice va ps.length vc).ownBlock ≠ some M := own_not hrow hmbk (by decide)
      have hMl := lt_of_blk hmbk
      have hbB := hbk.hB
      generalize wr = wP at *
      go_wp2_with fail
      rw [HQP.out]
      clear m1 m2
      refine (badPartition_any (P.length / 4) wP (by omega)).mono ?_
      rintro e XP1 ⟨rfl, hbP1⟩
      generalize hjj : P.length / 4 = jjP at *
      have HJP : Hid _ := hjj
      clear hjj
      go_wp2_with fail
      have kP1 : KB (fun k => (Value.slice va ps.length vc).ownBlock = some k) wP (XP1.alloc (.cells #[.string ⟨#[63, 63]⟩, .int .i64 (-1000 - (jjP : Int)), .int .i64 0, .int .i64 0, .slice none 0 0] 42)) := (KB.below hbP1).trans (KB.below ((Below.refl _ _).alloc (Nat.le_refl _) _))
      have hMP := heap_new XP1 (.cells #[.string ⟨#[63, 63]⟩, .int .i64 (-1000 - (jjP : Int)), .int .i64 0, .int .i64 0, .slice none 0 0] 42)
      have hMwP : wP.heap.size ≤ XP1.heap.size := hbP1.size
      have hlP1 : (XP1.alloc (.cells #[.string ⟨#[63, 63]⟩, .int .i64 (-1000 - (jjP : Int)), .int .i64 0, .int .i64 0, .slice none 0 0] 42)).ownsRow B 42 5 (.slice va ps.length vc) ps.length _ := (own_below hrow hbP1).alloc _
      generalize XP1.alloc (.cells #[.string ⟨#[63, 63]⟩, .int .i64 (-1000 - (jjP : Int)), .int .i64 0, .int .i64 0, .slice none 0 0] 42) = XP2 at *
      have hlMP : (Value.slice va ps.length vc).ownBlock ≠ some XP1.heap.size := fun hk => by have := (hrow.lt _ hk).2; omega
      generalize XP1.heap.size = MP at *
      go_loopw [7] (fun i wr => ∃ (k : Nat) (rest : List Value), i = .int .i64 k ∧ k ≤ ps.length ∧ rest.length = (ps.length - k) * 5 ∧ wr.ownsRow B 42 5 (.slice va ps.length vc) ps.length (rep (badP' jjP) k ++ rest) ∧ KB (fun k => (Value.slice va ps.length vc).ownBlock = some k) XP2 wr) (fun i _ => ps.length - (intOf i).toNat)
      case atStart => exact ⟨0, _, rfl, by omega, by rw [hlP1.1]; simp, by simpa [rep] using hlP1, KB.refl _ _⟩
      case round =>
        obtain ⟨k, rest, rfl, hk, hrl, hown, hkb⟩ := hrel
        clear hlP1
        have hMr : wr.heap[MP]? = some (.cells #[.string ⟨#[63, 63]⟩, .int .i64 (-1000 - (jjP : Int)), .int .i64 0, .int .i64 0, .slice none 0 0] 42 (0, 0)) := by rw [hkb.block MP (lt_of_blk hMP) hlMP]; exact hMP
        have m0 : wr.cell? ⟨MP, 0, none⟩ = some (.string ⟨#[63, 63]⟩) := by rw [cell_of_blk hMr]; rfl
        have m1 : wr.cell? ⟨MP, 1, none⟩ = some (.int .i64 (-1000 - (jjP : Int))) := by rw [cell_of_blk hMr]; rfl
        have m2 : wr.cell? ⟨MP, 2, none⟩ = some (.int .i64 0) := by rw [cell_of_blk hMr]; rfl
        have m3 : wr.cell? ⟨MP, 3, none⟩ = some (.int .i64 0) := by rw [cell_of_blk hMr]; rfl
        have m4 : wr.cell? ⟨MP, 4, none⟩ = some (.slice none 0 0) := by rw [cell_of_blk hMr]; rfl
        by_cases hlt : k < ps.length
        · rcases own_nil_or hown with ⟨h0, _⟩ | ⟨g, cap, e1⟩
          · omega
          cases e1
          have hgb : ∃ cur, wr.heap[g]? = some (.cells cur 42 (0, 0)) := by
            rcases hown.2 with ⟨h0, _⟩ | ⟨g', cap', cur, hv, _, hg, _⟩
            · cases h0
            · cases hv; exact ⟨cur, hg⟩
          obtain ⟨cur, hgb⟩ := hgb
          have some_at : ∀ j, j < ps.length * 5 → ∃ y, wr.cell? ⟨g, j, none⟩ = some y := by
            intro j hj
            rw [own_cells hown j hj]
            have hjl : j < (rep (badP' jjP) k ++ rest).length := by rw [hown.1]; exact hj
            exact ⟨_, List.getElem?_eq_getElem hjl⟩
          obtain ⟨y0, e0⟩ := some_at (k * 5) (by omega)
          obtain ⟨y1, e1⟩ := some_at (k * 5 + 1) (by omega)
          obtain ⟨y2, e2⟩ := some_at (k * 5 + 2) (by omega)
          obtain ⟨y3, e3⟩ := some_at (k * 5 + 3) (by omega)
          obtain ⟨y4, e4⟩ := some_at (k * 5 + 4) (by omega)
          have fz : ∀ j, wr.frozen? ⟨g, j, none⟩ = false := fun j => frozen_of_blk hgb
          have hlt' : (k : Int) < (ps.length : Int) := by omega
          have hk0 : (0 : Int) ≤ (k : Int) := by omega
          have hgM : g ≠ MP := fun e => hlMP (by rw [e]; rfl)
          have hfs := fill_step (pat := badP' jjP) rfl hlt hrl hown
          have HFS : Hid _ := hfs
          have HKB : Hid _ := hkb
          clear some_at hfs hkb hown
          go_wp2_with fail
          go_roundw
          case rel =>
            obtain ⟨rest', h1, h2⟩ := HFS.out
            exact ⟨k + 1, rest', by go_num, by omega, h1, h2, HKB.out.trans (KB.of (grown_setCells g (badP' jjP) (k * 5) wr) (fun x hx => hx))⟩
          case measure => simp [intOf]; omega
        · have hkn : k = ps.length := by omega
          subst hkn
          obtain rfl : rest = [] := List.eq_nil_of_length_eq_zero (by rw [hrl]; simp)
          rw [List.append_nil] at hown
          clear hlt hrl
          have hkwP : KB (fun x => (Value.slice va ps.length vc).ownBlock = some x) wP wr := kP1.trans hkb
          have HKWP : Hid _ := hkwP
          have hszwP := hkwP.size
          clear hkwP hkb kP1
          have hMlP0 := lt_of_blk hMr
          go_wp2_with (first
            | (at_builtin; refine wpList_append_stays _ rfl _ _ _ rfl B 42 i0 _ 5 64 Tryz.underlying31 hi0 hz0 hz1 hz2 rfl (by omega) (.slice va ps.length vc) ps.length (rep (badP' jjP) ps.length) rfl (hown.alloc _) ⟨wr.heap.size, 0, none⟩ 1 1 (rep (badP' jjP) 1) rfl rfl (World.news_of_block (cs := #[.string ⟨#[63, 63]⟩, .int .i64 (-1000 - (jjP : Int)), .int .i64 0, .int .i64 0, .slice none 0 0]) (t := 42) (fr := (0, 0)) (heap_new wr _)) (by simp [rep, badP', Value.oneCell']) (by omega) (by unfold maxLen; omega) (by omega) (by simp; omega) ?_; intro gP1 cP1 VP1 nP1 oP1 grP1 dP1
               have hMP1 : VP1.heap[MP]? = some (.cells #[.string ⟨#[63, 63]⟩, .int .i64 (-1000 - (jjP : Int)), .int .i64 0, .int .i64 0, .slice none 0 0] 42 (0, 0)) := (grP1.block MP (by simp; omega) hlMP.symm).trans ((Below.heap_alloc _ _ _ (lt_of_blk hMr)).trans hMr)
               have hMlP1 := lt_of_blk hMP1
               have qP10 : VP1.cell? ⟨MP, 0, none⟩ = some (.string ⟨#[63, 63]⟩) := by (rw [cell_of_blk hMP1]; rfl)
               have qP11 : VP1.cell? ⟨MP, 1, none⟩ = some (.int .i64 (-1000 - (jjP : Int))) := by (rw [cell_of_blk hMP1]; rfl)
               have qP12 : VP1.cell? ⟨MP, 2, none⟩ = some (.int .i64 0) := by (rw [cell_of_blk hMP1]; rfl)
               have qP13 : VP1.cell? ⟨MP, 3, none⟩ = some (.int .i64 0) := by (rw [cell_of_blk hMP1]; rfl)
               have qP14 : VP1.cell? ⟨MP, 4, none⟩ = some (.slice none 0 0) := by (rw [cell_of_blk hMP1]; rfl)
               have szP1 := grP1.size
               simp at szP1
               have kkP1 : KB (fun x => (Value.slice va ps.length vc).ownBlock = some x) wP VP1 := (HKWP.out.trans (KB.below ((Below.refl _ _).alloc (Nat.le_refl _) _))).trans (grown_own grP1))
            | (at_builtin; refine wpList_append_stays _ rfl _ _ _ rfl B 42 i0 _ 5 64 Tryz.underlying31 hi0 hz0 hz1 hz2 rfl (by omega) (.slice va ps.length vc) ps.length (rep (badP' jjP) ps.length) rfl (oP1.alloc _) ⟨VP1.heap.size, 0, none⟩ 2 2 (rep (badP' jjP) 2) rfl rfl (World.news_of_block (cs := #[.string ⟨#[63, 63]⟩, .int .i64 (-1000 - (jjP : Int)), .int .i64 0, .int .i64 0, .slice none 0 0, .string ⟨#[63, 63]⟩, .int .i64 (-1000 - (jjP : Int)), .int .i64 0, .int .i64 0, .slice none 0 0]) (t := 42) (fr := (0, 0)) (heap_new VP1 _)) (by simp [rep, badP', Value.oneCell']) (by omega) (by unfold maxLen; omega) (by omega) (by simp; omega) ?_; intro gP2 cP2 VP2 nP2 oP2 grP2 dP2
               have hMP2 : VP2.heap[MP]? = some (.cells #[.string ⟨#[63, 63]⟩, .int .i64 (-1000 - (jjP : Int)), .int .i64 0, .int .i64 0, .slice none 0 0] 42 (0, 0)) := (grP2.block MP (by simp; omega) hlMP.symm).trans ((Below.heap_alloc _ _ _ (lt_of_blk hMP1)).trans hMP1)
               have hMlP2 := lt_of_blk hMP2
               have qP20 : VP2.cell? ⟨MP, 0, none⟩ = some (.string ⟨#[63, 63]⟩) := by (rw [cell_of_blk hMP2]; rfl)
               have qP21 : VP2.cell? ⟨MP, 1, none⟩ = some (.int .i64 (-1000 - (jjP : Int))) := by (rw [cell_of_blk hMP2]; rfl)
               have qP22 : VP2.cell? ⟨MP, 2, none⟩ = some (.int .i64 0) := by (rw [cell_of_blk hMP2]; rfl)
               have qP23 : VP2.cell? ⟨MP, 3, none⟩ = some (.int .i64 0) := by (rw [cell_of_blk hMP2]; rfl)
               have qP24 : VP2.cell? ⟨MP, 4, none⟩ = some (.slice none 0 0) := by (rw [cell_of_blk hMP2]; rfl)
               have szP2 := grP2.size
               simp at szP2
               have kkP2 : KB (fun x => (Value.slice va ps.length vc).ownBlock = some x) wP VP2 := (kkP1.trans (KB.below ((Below.refl _ _).alloc (Nat.le_refl _) _))).trans (grown_own grP2))
            | (at_builtin; refine wpList_append_stays _ rfl _ _ _ rfl B 42 i0 _ 5 64 Tryz.underlying31 hi0 hz0 hz1 hz2 rfl (by omega) (.slice va ps.length vc) ps.length (rep (badP' jjP) ps.length) rfl (oP2.alloc _) ⟨VP2.heap.size, 0, none⟩ 3 3 (rep (badP' jjP) 3) rfl rfl (World.news_of_block (cs := #[.string ⟨#[63, 63]⟩, .int .i64 (-1000 - (jjP : Int)), .int .i64 0, .int .i64 0, .slice none 0 0, .string ⟨#[63, 63]⟩, .int .i64 (-1000 - (jjP : Int)), .int .i64 0, .int .i64 0, .slice none 0 0, .string ⟨#[63, 63]⟩, .int .i64 (-1000 - (jjP : Int)), .int .i64 0, .int .i64 0, .slice none 0 0]) (t := 42) (fr := (0, 0)) (heap_new VP2 _)) (by simp [rep, badP', Value.oneCell']) (by omega) (by unfold maxLen; omega) (by omega) (by simp; omega) ?_; intro gP3 cP3 VP3 nP3 oP3 grP3 dP3
               have hMP3 : VP3.heap[MP]? = some (.cells #[.string ⟨#[63, 63]⟩, .int .i64 (-1000 - (jjP : Int)), .int .i64 0, .int .i64 0, .slice none 0 0] 42 (0, 0)) := (grP3.block MP (by simp; omega) hlMP.symm).trans ((Below.heap_alloc _ _ _ (lt_of_blk hMP2)).trans hMP2)
               have hMlP3 := lt_of_blk hMP3
               have qP30 : VP3.cell? ⟨MP, 0, none⟩ = some (.string ⟨#[63, 63]⟩) := by (rw [cell_of_blk hMP3]; rfl)
               have qP31 : VP3.cell? ⟨MP, 1, none⟩ = some (.int .i64 (-1000 - (jjP : Int))) := by (rw [cell_of_blk hMP3]; rfl)
               have qP32 : VP3.cell? ⟨MP, 2, none⟩ = some (.int .i64 0) := by (rw [cell_of_blk hMP3]; rfl)
               have qP33 : VP3.cell? ⟨MP, 3, none⟩ = some (.int .i64 0) := by (rw [cell_of_blk hMP3]; rfl)
               have qP34 : VP3.cell? ⟨MP, 4, none⟩ = some (.slice none 0 0) := by (rw [cell_of_blk hMP3]; rfl)
               have szP3 := grP3.size
               simp at szP3
               have kkP3 : KB (fun x => (Value.slice va ps.length vc).ownBlock = some x) wP VP3 := (kkP2.trans (KB.below ((Below.refl _ _).alloc (Nat.le_refl _) _))).trans (grown_own grP3)
               have hbP3 := hbk.kept hrow kkP3 (by decide) (by decide) (by decide) (by decide) (fun _ _ e => absurd e (by decide)) (fun u hu _ => HPB.out u hu) (fun _ _ e => absurd e (by decide))
               have blP3 := lt_of_blk hbP3.blk
               have bP3 : VP3.cell? ⟨bb, 1, none⟩ = some (.slice pa P.length pc) := by (rw [cell_of_blk hbP3.blk]; rfl))
            | (at_builtin; refine wpList_append_lies _ rfl _ _ _ rfl B 31 j0 _ 1 24 Tryz.underlying25 hj0 hy0 hy1 hy2 rfl (by omega) (.slice pa P.length pc) P.length P rfl (hbP3.rP.alloc _) ⟨VP3.heap.size, 0, none⟩ 4 4 [(.slice va ps.length vc), .slice (some ⟨gP1, 0, none⟩) (ps.length + 1) cP1, .slice (some ⟨gP2, 0, none⟩) (ps.length + 2) cP2, .slice (some ⟨gP3, 0, none⟩) (ps.length + 3) cP3] rfl rfl (World.news_of_block (cs := #[(.slice va ps.length vc), .slice (some ⟨gP1, 0, none⟩) (ps.length + 1) cP1, .slice (some ⟨gP2, 0, none⟩) (ps.length + 2) cP2, .slice (some ⟨gP3, 0, none⟩) (ps.length + 3) cP3]) (t := 31) (fr := (0, 0)) (heap_new VP3 _)) (by simp [Value.oneCell']) (by omega) (by unfold maxLen; omega) (by omega) (by simp; omega) (VP3.heap.size + 1) (by simp) ?_; intro gP4 cP4 VP4 nP4 grP4 atP4 ltP4
               have hbP4 : VP4.heap[bb]? = some (.cells #[rw', .slice pa P.length pc, .slice ca C.length cc, .slice none 0 0] 29 (0, 0)) := (grP4.block bb (by simp; omega) (fun e => own_not hbP3.rP hbP3.blk (by decide) e.symm)).trans ((Below.heap_alloc _ _ _ blP3).trans hbP3.blk)
               have eP4 : VP4.cell? ⟨bb, 1, none⟩ = some (.slice pa P.length pc) := by (rw [cell_of_blk hbP4]; rfl)
               have fP4 : VP4.frozen? ⟨bb, 1, none⟩ = false := frozen_of_blk hbP4
               have hmP3 := kb_mani hmbk kkP3 hMrow
               have hmP4 : VP4.heap[M]? = some (.cells #[.int .i64 f, .slice va ps.length vc, .slice ua cs.length uc] 34 (0, 0)) := (grP4.block M (by have := lt_of_blk hmP3; simp; omega) (fun e => own_not hbP3.rP hmP3 (by decide) e.symm)).trans ((Below.heap_alloc _ _ _ (lt_of_blk hmP3)).trans hmP3)
               have cM2 : VP4.cell? ⟨M, 2, none⟩ = some (.slice ua cs.length uc) := by (rw [cell_of_blk hmP4]; rfl)
               have cb2 : VP4.cell? ⟨bb, 2, none⟩ = some (.slice ca C.length cc) := by (rw [cell_of_blk hbP4]; rfl)))
          have wP1 : VP1.ownsRow B 42 5 (.slice (some ⟨gP1, 0, none⟩) (ps.length + 1) cP1) (ps.length + 1) (rep (badP' jjP) (ps.length + 1)) := by (rw [rep_add]; exact nP1)
          have wP2 : VP2.ownsRow B 42 5 (.slice (some ⟨gP2, 0, none⟩) (ps.length + 2) cP2) (ps.length + 2) (rep (badP' jjP) (ps.length + 2)) := by (rw [rep_add]; exact nP2)
          have wP21 := pat_stays (size := 5) (pat := badP' jjP) rfl (by omega) (wP1.alloc _) (by omega) (oP1.alloc _) nP2 grP2 dP2
          have wP3 : VP3.ownsRow B 42 5 (.slice (some ⟨gP3, 0, none⟩) (ps.length + 3) cP3) (ps.length + 3) (rep (badP' jjP) (ps.length + 3)) := by (rw [rep_add]; exact nP3)
          have wP31 := pat_stays (size := 5) (pat := badP' jjP) rfl (by omega) (wP21.alloc _) (by omega) (oP2.alloc _) nP3 grP3 dP3
          have wP32 := pat_stays (size := 5) (pat := badP' jjP) rfl (by omega) (wP2.alloc _) (by omega) (oP2.alloc _) nP3 grP3 dP3
          have hbaP : Below VP3.heap.size VP3 (VP3.alloc (.cells #[(.slice va ps.length vc), .slice (some ⟨gP1, 0, none⟩) (ps.length + 1) cP1, .slice (some ⟨gP2, 0, none⟩) (ps.length + 2) cP2, .slice (some ⟨gP3, 0, none⟩) (ps.length + 3) cP3] 31)) := (Below.refl _ _).alloc (Nat.le_refl _) _
          have hfinP := (hbP3.below hbaP).addP (a := (.slice va ps.length vc)) (b := .slice (some ⟨gP1, 0, none⟩) (ps.length + 1) cP1) (d := .slice (some ⟨gP2, 0, none⟩) (ps.length + 2) cP2) (f := .slice (some ⟨gP3, 0, none⟩) (ps.length + 3) cP3) (by
            rw [HJP.out]
            intro u hu
            simp only [List.mem_cons, List.not_mem_nil, or_false] at hu
            rcases hu with rfl | rfl | rfl | rfl
            · exact ⟨ps.length, by omega, oP3.alloc _⟩
            · exact ⟨ps.length + 1, by omega, wP31.alloc _⟩
            · exact ⟨ps.length + 2, by omega, wP32.alloc _⟩
            · exact ⟨ps.length + 3, by omega, wP3.alloc _⟩) grP4 nP4
          have hkfP : KB (fun k => k = bb ∨ (Value.slice pa P.length pc).ownBlock = some k ∨ (Value.slice va ps.length vc).ownBlock = some k) wP (VP4.setCell ⟨bb, 1, none⟩ (.slice (some ⟨gP4, 0, none⟩) (P.length + 4) cP4)) := (((kkP3.mono (fun x hx => .inr (.inr hx))).trans (KB.below hbaP)).trans (KB.of grP4 (fun x hx => .inr (.inl hx)))).trans (KB.of (grown_set VP4 bb 1 _) (fun x hx => .inl (by injection hx with hx; exact hx.symm)))
          have hchn2 : (VP4.setCell ⟨bb, 1, none⟩ (.slice (some ⟨gP4, 0, none⟩) (P.length + 4) cP4)).ownsRow Bp 92 6 (.slice ua cs.length uc) cs.length (chanRows cs) := KB.own hchnp hkfP (by
            rintro x hx (rfl | hA | hA)
            · exact own_not hchnp hbk.blk (by decide) hx
            · exact own_types hchnp hbk.rP (by decide) hx hA
            · exact own_types hchnp hrow (by decide) hx hA)
          have hchn3 := own_mono hchn2 hBp
          have HPL1 : Hid (PL w (VP4.setCell ⟨bb, 1, none⟩ (.slice (some ⟨gP4, 0, none⟩) (P.length + 4) cP4))) := HPL0.out.trans (PL.keep hkfP hbk.blk hbk.rP hrow (by decide) (by decide))
          have hbel2 : Below B w (VP4.setCell ⟨bb, 1, none⟩ (.slice (some ⟨gP4, 0, none⟩) (P.length + 4) cP4)) := hbelow.trans (hkfP.toBelow (by omega) (by
            rintro x (rfl | hA | hA)
            · exact hbB
            · exact (hbk.rP.lt x hA).1
            · exact (hrow.lt x hA).1))
          have HPL : Hid ((P ++ [Value.slice va ps.length vc, Value.slice (some ⟨gP1, 0, none⟩) (ps.length + 1) cP1, Value.slice (some ⟨gP2, 0, none⟩) (ps.length + 2) cP2, Value.slice (some ⟨gP3, 0, none⟩) (ps.length + 3) cP3]).length = P.length + 4) := by show _ = _; simp
          have hfin2 := hfinP
          generalize P ++ [Value.slice va ps.length vc, Value.slice (some ⟨gP1, 0, none⟩) (ps.length + 1) cP1, Value.slice (some ⟨gP2, 0, none⟩) (ps.length + 2) cP2, Value.slice (some ⟨gP3, 0, none⟩) (ps.length + 3) cP3] = PP at *
          have HCB : Hid (∀ x ∈ C, ∀ g, x.ownBlock = some g → (Value.slice ua cs.length uc).ownBlock ≠ some g) := fun x hx g hg hv => by have h1 := HOC.out x hx g hg; have h2 := (hchn2.lt g hv).1; omega
          have hszC : (VP4.setCell ⟨bb, 1, none⟩ (.slice (some ⟨gP4, 0, none⟩) (P.length + 4) cP4)).heap.size = VP4.heap.size := by simp [World.setCell]
          have hbbC : bb < (VP4.setCell ⟨bb, 1, none⟩ (.slice (some ⟨gP4, 0, none⟩) (P.length + 4) cP4)).heap.size := lt_of_blk hfin2.blk
          have fzb : ∀ i, (VP4.setCell ⟨bb, 1, none⟩ (.slice (some ⟨gP4, 0, none⟩) (P.length + 4) cP4)).frozen? ⟨bb, i, none⟩ = false := fun i => frozen_of_blk hfin2.blk
          generalize VP4.setCell ⟨bb, 1, none⟩ (.slice (some ⟨gP4, 0, none⟩) (P.length + 4) cP4) = wC at *
          clear hkfP hbaP wP31 wP32 wP21 wP1 wP2 wP3 nP1 nP2 nP3 nP4 oP1 oP2 oP3 grP1 grP2 grP3 grP4 dP1 dP2 dP3 hbP3 hbP4 kkP1 kkP2 kkP3 hmP3 hmP4 cM2 cb2 hfinP hMP1 hMP2 hMP3 hbk hrow hrowp hown hMr
          rw [HQC.out]
          refine (badChannel_any (C.length / 4) wC (by omega)).mono ?_
          rintro e XC1 ⟨rfl, hbC1⟩
          generalize hjj : C.length / 4 = jjC at *
          have HJC : Hid _ := hjj
          clear hjj
          go_wp2_with fail
          have kC1 : KB (fun k => (Value.slice ua cs.length uc).ownBlock = some k) wC (XC1.alloc (.cells #[.string ⟨#[63, 63]⟩, .int .i64 (-1000 - (jjC : Int)), .int .i64 0, .int .i64 0, .int .i64 0, .int .i64 0] 92)) := (KB.below hbC1).trans (KB.below ((Below.refl _ _).alloc (Nat.le_refl _) _))
          have hMC := heap_new XC1 (.cells #[.string ⟨#[63, 63]⟩, .int .i64 (-1000 - (jjC : Int)), .int .i64 0, .int .i64 0, .int .i64 0, .int .i64 0] 92)
          have hMwC : wC.heap.size ≤ XC1.heap.size := hbC1.size
          have hlC1 : (XC1.alloc (.cells #[.string ⟨#[63, 63]⟩, .int .i64 (-1000 - (jjC : Int)), .int .i64 0, .int .i64 0, .int .i64 0, .int .i64 0] 92)).ownsRow B 92 6 (.slice ua cs.length uc) cs.length _ := (own_below hchn3 hbC1).alloc _
          generalize XC1.alloc (.cells #[.string ⟨#[63, 63]⟩, .int .i64 (-1000 - (jjC : Int)), .int .i64 0, .int .i64 0, .int .i64 0, .int .i64 0] 92) = XC2 at *
          have hlMC : (Value.slice ua cs.length uc).ownBlock ≠ some XC1.heap.size := fun hk => by have := (hchn3.lt _ hk).2; omega
          generalize XC1.heap.size = MC at *
          go_loopw [13] (fun i wr => ∃ (k : Nat) (rest : List Value), i = .int .i64 k ∧ k ≤ cs.length ∧ rest.length = (cs.length - k) * 6 ∧ wr.ownsRow B 92 6 (.slice ua cs.length uc) cs.length (rep (badC jjC) k ++ rest) ∧ KB (fun k => (Value.slice ua cs.length uc).ownBlock = some k) XC2 wr) (fun i _ => cs.length - (intOf i).toNat)
          case atStart => exact ⟨0, _, rfl, by omega, by rw [hlC1.1]; simp, by simpa [rep] using hlC1, KB.refl _ _⟩
          case round =>
            obtain ⟨k, rest, rfl, hk, hrl, hown, hkb⟩ := hrel
            clear hlC1
            have hMr : wr.heap[MC]? = some (.cells #[.string ⟨#[63, 63]⟩, .int .i64 (-1000 - (jjC : Int)), .int .i64 0, .int .i64 0, .int .i64 0, .int .i64 0] 92 (0, 0)) := by rw [hkb.block MC (lt_of_blk hMC) hlMC]; exact hMC
            have m0 : wr.cell? ⟨MC, 0, none⟩ = some (.string ⟨#[63, 63]⟩) := by rw [cell_of_blk hMr]; rfl
            have m1 : wr.cell? ⟨MC, 1, none⟩ = some (.int .i64 (-1000 - (jjC : Int))) := by rw [cell_of_blk hMr]; rfl
            have m2 : wr.cell? ⟨MC, 2, none⟩ = some (.int .i64 0) := by rw [cell_of_blk hMr]; rfl
            have m3 : wr.cell? ⟨MC, 3, none⟩ = some (.int .i64 0) := by rw [cell_of_blk hMr]; rfl
            have m4 : wr.cell? ⟨MC, 4, none⟩ = some (.int .i64 0) := by rw [cell_of_blk hMr]; rfl
            have m5 : wr.cell? ⟨MC, 5, none⟩ = some (.int .i64 0) := by rw [cell_of_blk hMr]; rfl
            by_cases hlt : k < cs.length
            · rcases own_nil_or hown with ⟨h0, _⟩ | ⟨g, cap, e1⟩
              · omega
              cases e1
              have hgb : ∃ cur, wr.heap[g]? = some (.cells cur 92 (0, 0)) := by
                rcases hown.2 with ⟨h0, _⟩ | ⟨g', cap', cur, hv, _, hg, _⟩
                · cases h0
                · cases hv; exact ⟨cur, hg⟩
              obtain ⟨cur, hgb⟩ := hgb
              have some_at : ∀ j, j < cs.length * 6 → ∃ y, wr.cell? ⟨g, j, none⟩ = some y := by
                intro j hj
                rw [own_cells hown j hj]
                have hjl : j < (rep (badC jjC) k ++ rest).length := by rw [hown.1]; exact hj
                exact ⟨_, List.getElem?_eq_getElem hjl⟩
              obtain ⟨y0, e0⟩ := some_at (k * 6) (by omega)
              obtain ⟨y1, e1⟩ := some_at (k * 6 + 1) (by omega)
              obtain ⟨y2, e2⟩ := some_at (k * 6 + 2) (by omega)
              obtain ⟨y3, e3⟩ := some_at (k * 6 + 3) (by omega)
              obtain ⟨y4, e4⟩ := some_at (k * 6 + 4) (by omega)
              obtain ⟨y5, e5⟩ := some_at (k * 6 + 5) (by omega)
              have fz : ∀ j, wr.frozen? ⟨g, j, none⟩ = false := fun j => frozen_of_blk hgb
              have hlt' : (k : Int) < (cs.length : Int) := by omega
              have hk0 : (0 : Int) ≤ (k : Int) := by omega
              have hgM : g ≠ MC := fun e => hlMC (by rw [e]; rfl)
              have hfs := fill_step (pat := badC jjC) rfl hlt hrl hown
              have HFS : Hid _ := hfs
              have HKB : Hid _ := hkb
              clear some_at hfs hkb hown
              go_wp2_with fail
              go_roundw
              case rel =>
                obtain ⟨rest', h1, h2⟩ := HFS.out
                exact ⟨k + 1, rest', by go_num, by omega, h1, h2, HKB.out.trans (KB.of (grown_setCells g (badC jjC) (k * 6) wr) (fun x hx => hx))⟩
              case measure => simp [intOf]; omega
            · have hkn : k = cs.length := by omega
              subst hkn
              obtain rfl : rest = [] := List.eq_nil_of_length_eq_zero (by rw [hrl]; simp)
              rw [List.append_nil] at hown
              clear hlt hrl
              have hkwC : KB (fun x => (Value.slice ua cs.length uc).ownBlock = some x) wC wr := kC1.trans hkb
              have HKWC : Hid _ := hkwC
              have hszwC := hkwC.size
              clear hkwC hkb kC1
              have hMlC0 := lt_of_blk hMr
              go_wp2_with (first
                | (at_builtin; refine wpList_append_stays _ rfl _ _ _ rfl B 92 i1 _ 6 56 Tryz.underlying32 hi1 hx0 hx1 hx2 rfl (by omega) (.slice ua cs.length uc) cs.length (rep (badC jjC) cs.length) rfl (hown.alloc _) ⟨wr.heap.size, 0, none⟩ 1 1 (rep (badC jjC) 1) rfl rfl (World.news_of_block (cs := #[.string ⟨#[63, 63]⟩, .int .i64 (-1000 - (jjC : Int)), .int .i64 0, .int .i64 0, .int .i64 0, .int .i64 0]) (t := 92) (fr := (0, 0)) (heap_new wr _)) (by simp [rep, badC, Value.oneCell']) (by omega) (by unfold maxLen; omega) (by omega) (by simp; omega) ?_; intro gC1 cC1 VC1 nC1 oC1 grC1 dC1
                   have hMC1 : VC1.heap[MC]? = some (.cells #[.string ⟨#[63, 63]⟩, .int .i64 (-1000 - (jjC : Int)), .int .i64 0, .int .i64 0, .int .i64 0, .int .i64 0] 92 (0, 0)) := (grC1.block MC (by simp; omega) hlMC.symm).trans ((Below.heap_alloc _ _ _ (lt_of_blk hMr)).trans hMr)
                   have hMlC1 := lt_of_blk hMC1
                   have qC10 : VC1.cell? ⟨MC, 0, none⟩ = some (.string ⟨#[63, 63]⟩) := by (rw [cell_of_blk hMC1]; rfl)
                   have qC11 : VC1.cell? ⟨MC, 1, none⟩ = some (.int .i64 (-1000 - (jjC : Int))) := by (rw [cell_of_blk hMC1]; rfl)
                   have qC12 : VC1.cell? ⟨MC, 2, none⟩ = some (.int .i64 0) := by (rw [cell_of_blk hMC1]; rfl)
                   have qC13 : VC1.cell? ⟨MC, 3, none⟩ = some (.int .i64 0) := by (rw [cell_of_blk hMC1]; rfl)
                   have qC14 : VC1.cell? ⟨MC, 4, none⟩ = some (.int .i64 0) := by (rw [cell_of_blk hMC1]; rfl)
                   have qC15 : VC1.cell? ⟨MC, 5, none⟩ = some (.int .i64 0) := by (rw [cell_of_blk hMC1]; rfl)
                   have szC1 := grC1.size
                   simp at szC1
                   have kkC1 : KB (fun x => (Value.slice ua cs.length uc).ownBlock = some x) wC VC1 := (HKWC.out.trans (KB.below ((Below.refl _ _).alloc (Nat.le_refl _) _))).trans (grown_own grC1))
                | (at_builtin; refine wpList_append_stays _ rfl _ _ _ rfl B 92 i1 _ 6 56 Tryz.underlying32 hi1 hx0 hx1 hx2 rfl (by omega) (.slice ua cs.length uc) cs.length (rep (badC jjC) cs.length) rfl (oC1.alloc _) ⟨VC1.heap.size, 0, none⟩ 2 2 (rep (badC jjC) 2) rfl rfl (World.news_of_block (cs := #[.string ⟨#[63, 63]⟩, .int .i64 (-1000 - (jjC : Int)), .int .i64 0, .int .i64 0, .int .i64 0, .int .i64 0, .string ⟨#[63, 63]⟩, .int .i64 (-1000 - (jjC : Int)), .int .i64 0, .int .i64 0, .int .i64 0, .int .i64 0]) (t := 92) (fr := (0, 0)) (heap_new VC1 _)) (by simp [rep, badC, Value.oneCell']) (by omega) (by unfold maxLen; omega) (by omega) (by simp; omega) ?_; intro gC2 cC2 VC2 nC2 oC2 grC2 dC2
                   have hMC2 : VC2.heap[MC]? = some (.cells #[.string ⟨#[63, 63]⟩, .int .i64 (-1000 - (jjC : Int)), .int .i64 0, .int .i64 0, .int .i64 0, .int .i64 0] 92 (0, 0)) := (grC2.block MC (by simp; omega) hlMC.symm).trans ((Below.heap_alloc _ _ _ (lt_of_blk hMC1)).trans hMC1)
                   have hMlC2 := lt_of_blk hMC2
                   have qC20 : VC2.cell? ⟨MC, 0, none⟩ = some (.string ⟨#[63, 63]⟩) := by (rw [cell_of_blk hMC2]; rfl)
                   have qC21 : VC2.cell? ⟨MC, 1, none⟩ = some (.int .i64 (-1000 - (jjC : Int))) := by (rw [cell_of_blk hMC2]; rfl)
                   have qC22 : VC2.cell? ⟨MC, 2, none⟩ = some (.int .i64 0) := by (rw [cell_of_blk hMC2]; rfl)
                   have qC23 : VC2.cell? ⟨MC, 3, none⟩ = some (.int .i64 0) := by (rw [cell_of_blk hMC2]; rfl)
                   have qC24 : VC2.cell? ⟨MC, 4, none⟩ = some (.int .i64 0) := by (rw [cell_of_blk hMC2]; rfl)
                   have qC25 : VC2.cell? ⟨MC, 5, none⟩ = some (.int .i64 0) := by (rw [cell_of_blk hMC2]; rfl)
                   have szC2 := grC2.size
                   simp at szC2
                   have kkC2 : KB (fun x => (Value.slice ua cs.length uc).ownBlock = some x) wC VC2 := (kkC1.trans (KB.below ((Below.refl _ _).alloc (Nat.le_refl _) _))).trans (grown_own grC2))
                | (at_builtin; refine wpList_append_stays _ rfl _ _ _ rfl B 92 i1 _ 6 56 Tryz.underlying32 hi1 hx0 hx1 hx2 rfl (by omega) (.slice ua cs.length uc) cs.length (rep (badC jjC) cs.length) rfl (oC2.alloc _) ⟨VC2.heap.size, 0, none⟩ 3 3 (rep (badC jjC) 3) rfl rfl (World.news_of_block (cs := #[.string ⟨#[63, 63]⟩, .int .i64 (-1000 - (jjC : Int)), .int .i64 0, .int .i64 0, .int .i64 0, .int .i64 0, .string ⟨#[63, 63]⟩, .int .i64 (-1000 - (jjC : Int)), .int .i64 0, .int .i64 0, .int .i64 0, .int .i64 0, .string ⟨#[63, 63]⟩, .int .i64 (-1000 - (jjC : Int)), .int .i64 0, .int .i64 0, .int .i64 0, .int .i64 0]) (t := 92) (fr := (0, 0)) (heap_new VC2 _)) (by simp [rep, badC, Value.oneCell']) (by omega) (by unfold maxLen; omega) (by omega) (by simp; omega) ?_; intro gC3 cC3 VC3 nC3 oC3 grC3 dC3
                   have hMC3 : VC3.heap[MC]? = some (.cells #[.string ⟨#[63, 63]⟩, .int .i64 (-1000 - (jjC : Int)), .int .i64 0, .int .i64 0, .int .i64 0, .int .i64 0] 92 (0, 0)) := (grC3.block MC (by simp; omega) hlMC.symm).trans ((Below.heap_alloc _ _ _ (lt_of_blk hMC2)).trans hMC2)
                   have hMlC3 := lt_of_blk hMC3
                   have qC30 : VC3.cell? ⟨MC, 0, none⟩ = some (.string ⟨#[63, 63]⟩) := by (rw [cell_of_blk hMC3]; rfl)
                   have qC31 : VC3.cell? ⟨MC, 1, none⟩ = some (.int .i64 (-1000 - (jjC : Int))) := by (rw [cell_of_blk hMC3]; rfl)
                   have qC32 : VC3.cell? ⟨MC, 2, none⟩ = some (.int .i64 0) := by (rw [cell_of_blk hMC3]; rfl)
                   have qC33 : VC3.cell? ⟨MC, 3, none⟩ = some (.int .i64 0) := by (rw [cell_of_blk hMC3]; rfl)
                   have qC34 : VC3.cell? ⟨MC, 4, none⟩ = some (.int .i64 0) := by (rw [cell_of_blk hMC3]; rfl)
                   have qC35 : VC3.cell? ⟨MC, 5, none⟩ = some (.int .i64 0) := by (rw [cell_of_blk hMC3]; rfl)
                   have szC3 := grC3.size
                   simp at szC3
                   have kkC3 : KB (fun x => (Value.slice ua cs.length uc).ownBlock = some x) wC VC3 := (kkC2.trans (KB.below ((Below.refl _ _).alloc (Nat.le_refl _) _))).trans (grown_own grC3)
                   have hbC3 := hfin2.kept hchn3 kkC3 (by decide) (by decide) (by decide) (by decide) (fun _ _ e => absurd e (by decide)) (fun _ _ e => absurd e (by decide)) (fun u hu _ => HCB.out u hu)
                   have blC3 := lt_of_blk hbC3.blk
                   have bC3 : VC3.cell? ⟨bb, 2, none⟩ = some (.slice ca C.length cc) := by (rw [cell_of_blk hbC3.blk]; rfl))
                | (at_builtin; refine wpList_append_lies _ rfl _ _ _ rfl B 32 j1 _ 1 24 Tryz.underlying26 hj1 ht0 ht1 ht2 rfl (by omega) (.slice ca C.length cc) C.length C rfl (hbC3.rC.alloc _) ⟨VC3.heap.size, 0, none⟩ 4 4 [(.slice ua cs.length uc), .slice (some ⟨gC1, 0, none⟩) (cs.length + 1) cC1, .slice (some ⟨gC2, 0, none⟩) (cs.length + 2) cC2, .slice (some ⟨gC3, 0, none⟩) (cs.length + 3) cC3] rfl rfl (World.news_of_block (cs := #[(.slice ua cs.length uc), .slice (some ⟨gC1, 0, none⟩) (cs.length + 1) cC1, .slice (some ⟨gC2, 0, none⟩) (cs.length + 2) cC2, .slice (some ⟨gC3, 0, none⟩) (cs.length + 3) cC3]) (t := 32) (fr := (0, 0)) (heap_new VC3 _)) (by simp [Value.oneCell']) (by omega) (by unfold maxLen; omega) (by omega) (by simp; omega) (VC3.heap.size + 1) (by simp) ?_; intro gC4 cC4 VC4 nC4 grC4 atC4 ltC4
                   have hbC4 : VC4.heap[bb]? = some (.cells #[rw', (.slice (some ⟨gP4, 0, none⟩) (P.length + 4) cP4), .slice ca C.length cc, .slice none 0 0] 29 (0, 0)) := (grC4.block bb (by simp; omega) (fun e => own_not hbC3.rC hbC3.blk (by decide) e.symm)).trans ((Below.heap_alloc _ _ _ blC3).trans hbC3.blk)
                   have eC4 : VC4.cell? ⟨bb, 2, none⟩ = some (.slice ca C.length cc) := by (rw [cell_of_blk hbC4]; rfl)
                   have fC4 : VC4.frozen? ⟨bb, 2, none⟩ = false := frozen_of_blk hbC4))
              have wC1 : VC1.ownsRow B 92 6 (.slice (some ⟨gC1, 0, none⟩) (cs.length + 1) cC1) (cs.length + 1) (rep (badC jjC) (cs.length + 1)) := by (rw [rep_add]; exact nC1)
              have wC2 : VC2.ownsRow B 92 6 (.slice (some ⟨gC2, 0, none⟩) (cs.length + 2) cC2) (cs.length + 2) (rep (badC jjC) (cs.length + 2)) := by (rw [rep_add]; exact nC2)
              have wC21 := pat_stays (size := 6) (pat := badC jjC) rfl (by omega) (wC1.alloc _) (by omega) (oC1.alloc _) nC2 grC2 dC2
              have wC3 : VC3.ownsRow B 92 6 (.slice (some ⟨gC3, 0, none⟩) (cs.length + 3) cC3) (cs.length + 3) (rep (badC jjC) (cs.length + 3)) := by (rw [rep_add]; exact nC3)
              have wC31 := pat_stays (size := 6) (pat := badC jjC) rfl (by omega) (wC21.alloc _) (by omega) (oC2.alloc _) nC3 grC3 dC3
              have wC32 := pat_stays (size := 6) (pat := badC jjC) rfl (by omega) (wC2.alloc _) (by omega) (oC2.alloc _) nC3 grC3 dC3
              have hbaC : Below VC3.heap.size VC3 (VC3.alloc (.cells #[(.slice ua cs.length uc), .slice (some ⟨gC1, 0, none⟩) (cs.length + 1) cC1, .slice (some ⟨gC2, 0, none⟩) (cs.length + 2) cC2, .slice (some ⟨gC3, 0, none⟩) (cs.length + 3) cC3] 32)) := (Below.refl _ _).alloc (Nat.le_refl _) _
              have hfinC := (hbC3.below hbaC).addC (a := (.slice ua cs.length uc)) (b := .slice (some ⟨gC1, 0, none⟩) (cs.length + 1) cC1) (d := .slice (some ⟨gC2, 0, none⟩) (cs.length + 2) cC2) (f := .slice (some ⟨gC3, 0, none⟩) (cs.length + 3) cC3) (by
                rw [HJC.out]
                intro u hu
                simp only [List.mem_cons, List.not_mem_nil, or_false] at hu
                rcases hu with rfl | rfl | rfl | rfl
                · exact ⟨cs.length, by omega, oC3.alloc _⟩
                · exact ⟨cs.length + 1, by omega, wC31.alloc _⟩
                · exact ⟨cs.length + 2, by omega, wC32.alloc _⟩
                · exact ⟨cs.length + 3, by omega, wC3.alloc _⟩) grC4 nC4
              have hkfC : KB (fun k => k = bb ∨ (Value.slice ca C.length cc).ownBlock = some k ∨ (Value.slice ua cs.length uc).ownBlock = some k) wC (VC4.setCell ⟨bb, 2, none⟩ (.slice (some ⟨gC4, 0, none⟩) (C.length + 4) cC4)) := (((kkC3.mono (fun x hx => .inr (.inr hx))).trans (KB.below hbaC)).trans (KB.of grC4 (fun x hx => .inr (.inl hx)))).trans (KB.of (grown_set VC4 bb 2 _) (fun x hx => .inl (by injection hx with hx; exact hx.symm)))
              go_returns
              refine ⟨rfl, _, _, _, _, _, _, hfinC, by rw [hRL, hkn], HPL.out, by simp, hbel2.trans (hkfC.toBelow (by omega) ?_), HPL1.out.trans (PL.keep hkfC hfin2.blk hfin2.rC hchn3 (by decide) (by decide))⟩
              rintro x (rfl | hA | hA)
              · exact hbB
              · exact (hfin2.rC.lt x hA).1
              · exact (hchn3.lt x hA).1
end Go.Proofs.YteioennfpkoagaaGreatDoor
