import Derived.Test.YteioennfpkoagaaGreatDoorG23
import Derived.Test.YteioennfpkoagaaGreatDoorG11
namespace Go.Proofs.YteioennfpkoagaaGreatDoor
open Go.RowKit
attribute [local go_sem ↓] Go.wp_at_zero Go.wp_at_succ

theorem PR.setPv {w : World} {pb c B : Nat} {ew en eu es ex : Addr} {l : List UInt8} {st : St} {pv : Value} (h : PR w pb c B ew en eu es ex l st pv) (x : Option Addr) (y z : Nat) : PR (w.setCell ⟨pb, 7, none⟩ (.slice x y z)) pb c B ew en eu es ex l st (.slice x y z) := by
  have h1 := h.ord
  refine ⟨h.gl.grown (grown_set w pb 7 _) (by intro k hk; injection hk with hk; have := h.hBp; omega), h.hBc, h.hBp, h.ord, h.len, ⟨x, y, z, rfl⟩, ?_⟩
  have ha := h.at'
  rcases st with k | ⟨er, ln, cl⟩
  · obtain ⟨a1, a2, a3⟩ := ha
    exact ⟨a1, a2.far pb 7 _ h1, by rw [blk_set 7 _ a3]; rfl⟩
  · obtain ⟨k, tt, v, a, b, mb, eb, a1, a2, a3⟩ := ha
    refine ⟨k, tt, v, a, b, mb, eb, by rw [blk_set 7 _ a1]; rfl, ?_, a3⟩
    have := mis_ne a2 a1
    unfold MisAt at *
    rw [blk_far _ _ this]; exact a2
theorem PR.c7 {w : World} {pb c B : Nat} {ew en eu es ex : Addr} {l : List UInt8} {st : St} {pv : Value} (h : PR w pb c B ew en eu es ex l st pv) : w.cell? ⟨pb, 7, none⟩ = some pv ∧ w.frozen? ⟨pb, 7, none⟩ = false := by
  have ha := h.at'
  rcases st with k | ⟨er, ln, cl⟩
  · obtain ⟨a1, a2, a3⟩ := ha
    exact ⟨by rw [cell_of_blk a3]; rfl, frozen_of_blk a3⟩
  · obtain ⟨k, tt, v, a, b, mb, eb, a1, _⟩ := ha
    exact ⟨by rw [cell_of_blk a1]; rfl, frozen_of_blk a1⟩
theorem PR.ty {w : World} {pb c B : Nat} {ew en eu es ex : Addr} {l : List UInt8} {st : St} {pv : Value} (h : PR w pb c B ew en eu es ex l st pv) : ∃ o, w.heap[pb]? = some (.cells o 177 (0, 0)) := by
  have ha := h.at'
  rcases st with k | ⟨er, ln, cl⟩
  · exact ⟨_, ha.2.2⟩
  · obtain ⟨k, tt, v, a, b, mb, eb, a1, _⟩ := ha
    exact ⟨_, a1⟩
theorem QW.setPv {w0 wr : World} {pb c B : Nat} {ew en eu es ex : Addr} {l : List UInt8} {r : RS} {pv : Value} {T : Nat} {zs xs : Array Value} (h : QW w0 wr pb c B ew en eu es ex l r pv T zs xs) (x : Option Addr) (y z : Nat) : QW w0 (wr.setCell ⟨pb, 7, none⟩ (.slice x y z)) pb c B ew en eu es ex l r (.slice x y z) T zs xs := by
  have h1 := h.lt
  exact ⟨h.rd.setPv x y z, h.kp.trans (KP.set wr pb 7 _ (.inl rfl)), by rw [blk_far _ _ (by omega)]; exact h.res, by rw [blk_far _ _ (by omega)]; exact h.loc, h.lt, h.ty⟩
theorem PartsAt.kq {w w' w0 : World} {pb c base : Nat} {v : Value} {ps : List Part} {vs : List Value} (h : PartsAt w base v ps vs) (hk : KP pb c w w') (h1 : pb < w0.heap.size) (h2 : c + 1 + 1 < pb) (h3 : w0.heap.size ≤ base) : PartsAt w' base v ps vs :=
  ⟨h.1, own_kq (w0 := w0) h.2.1 hk h1 h2 h3, fun i a b => own_kq (w0 := w0) (h.2.2 i a b) hk h1 h2 h3⟩
theorem partRows_cells (ps : List Part) (vs : List Value) (h : ps.length = vs.length) (j : Nat) (hj : j < ps.length) : ∃ h' : j < vs.length, (partRows ps vs)[j * 5]? = some (.string ⟨ps[j].name.toArray⟩) ∧ (partRows ps vs)[j * 5 + 1]? = some (.int .i64 ps[j].period) ∧ (partRows ps vs)[j * 5 + 2]? = some (.int .i64 ps[j].duration) ∧ (partRows ps vs)[j * 5 + 3]? = some (.int .i64 ps[j].action) ∧ (partRows ps vs)[j * 5 + 4]? = some vs[j] := by
  induction ps generalizing vs j with
  | nil => simp at hj
  | cons a ps ih => cases vs with
    | nil => simp at h
    | cons u vs =>
      simp at h
      cases j with
      | zero => exact ⟨by simp, by simp [partRows, partCells]⟩
      | succ j =>
        obtain ⟨h', h1, h2, h3, h4, h5⟩ := ih vs h j (by simpa using hj)
        refine ⟨by simpa using h', ?_⟩
        have e : (j + 1) * 5 = 5 + j * 5 := by omega
        simp only [partRows, e]
        have key : ∀ q, (partCells a u ++ partRows ps vs)[5 + j * 5 + q]? = (partRows ps vs)[j * 5 + q]? := by
          intro q
          rw [List.getElem?_append_right (by simp [partCells]; omega)]
          congr 1
          simp [partCells]; omega
        have k0 := key 0
        simp only [Nat.add_zero] at k0
        rw [k0, key 1, key 2, key 3, key 4]
        exact ⟨by simpa using h1, by simpa using h2, by simpa using h3, by simpa using h4, by simpa using h5⟩
theorem PartsAt.partT {w : World} {base : Nat} {v : Value} {ps : List Part} {vs : List Value} (h : PartsAt w base v ps vs) : PartT w v (ps.map Part.name) := by
  obtain ⟨h1, h2, h3⟩ := h
  rcases h2 with ⟨hl, ⟨rfl, h0⟩ | ⟨g, cap, cur, rfl, _, hg, _, _, _, ht⟩⟩
  · left; refine ⟨rfl, ?_⟩
    have : ps = [] := List.eq_nil_of_length_eq_zero h0
    rw [this]; rfl
  · right
    refine ⟨g, cap, by simp, cur, _, _, hg, ?_⟩
    intro j hj
    simp at hj
    obtain ⟨h', a0, a1, a2, a3, a4⟩ := partRows_cells ps vs h1 j hj
    obtain ⟨xa, xc, hx⟩ := own_shape (h3 j hj h')
    have get : ∀ q, q < 5 → cur[j * 5 + q]? = (partRows ps vs)[j * 5 + q]? := by
      intro q hq
      rw [← ht, List.getElem?_take_of_lt (by omega)]; simp
    have g0 := get 0 (by omega)
    simp only [Nat.add_zero] at g0
    refine ⟨by rw [g0, a0]; simp, ps[j].period, ps[j].duration, ps[j].action, xa, _, xc, by rw [get 1 (by omega)]; exact a1, by rw [get 2 (by omega)]; exact a2, by rw [get 3 (by omega)]; exact a3, by rw [get 4 (by omega), a4, hx]⟩
/- lists in blocks of their own -/
def Sep (vs : List Value) : Prop := vs.Pairwise fun a b => ∀ x, a.ownBlock = some x → b.ownBlock ≠ some x
theorem Sep.snoc {w : World} {base B : Nat} {v u : Value} {ps : List Part} {vs : List Value} {e size n : Nat} {xs : List Value} (hs : Sep vs) (h : PartsAt w base v ps vs) (hu : w.heap.size ≤ B) {w' : World} (ho : w'.ownsRow B e size u n xs) : Sep (vs ++ [u]) := by
  unfold Sep
  rw [List.pairwise_append]
  refine ⟨hs, by simp, ?_⟩
  intro a ha b hb x hx hy
  simp only [List.mem_singleton] at hb
  subst hb
  obtain ⟨i, hi, rfl⟩ := List.getElem_of_mem ha
  have h1 := ((h.2.2 i (by rw [h.1]; exact hi) hi).lt x hx).2
  have h2 := (ho.lt x hy).1
  omega
theorem some_len (l : List UInt8) (r : RS) (h : (someR l r 1).2.e = 0) : (someR l r 1).1.length ≤ 16 := by
  unfold someR at *
  split at h
  · exact absurd h (by assumption)
  · rename_i he
    rw [if_neg he]
    split at h
    · rename_i hq
      exact absurd h (fail_e l r)
    · rename_i hq
      rw [if_neg hq]
      simp only [not_or, Decidable.not_not] at hq
      have := long_word hq.1
      rw [hq.2] at this
      split at this
      · cases this
      · simp only []; omega
theorem part_len (l : List UInt8) (N : Nat) (r : RS) (h : (partitionR l N r).2.e = 0) : (partitionR l N r).1.name.length ≤ 16 := by
  have h1 : (partHeadR l r).2.e = 0 := by
    unfold partitionR at h
    simp only [] at h
    exact (regsR_le _ _ _ _).back ((mustR_le _ _ _).back h)
  show (partHeadR l r).1.1.length ≤ 16
  unfold partHeadR at *
  simp only [] at *
  refine some_len l _ ?_
  refine (mustR_le l _ [kOpen, kPeriod]).back ?_
  refine (numberR_le l _).back ?_
  refine (mustR_le l _ [kSemi, kDuration]).back ?_
  refine (numberR_le l _).back ?_
  refine (mustR_le l _ [kSemi, kFault]).back ?_
  refine (oneOfR_le l _ 0 kActions).back ?_
  exact (mustR_le _ _ _).back h1

set_option maxRecDepth 100000 in
set_option maxHeartbeats 4000000 in
theorem manifest_r (w : World) (pb c B : Nat) (ew en eu es ex : Addr) (N : Nat) (l : List UInt8) (h : PR w pb c B ew en eu es ex l (absS l ⟨0, 0, 0, 0⟩) (.slice none 0 0)) (hN : TokN l N) (hN2 : N ≤ 8193) :
    Calls Tryz.prog 91 #[.pointer (some ⟨pb, 0, none⟩)] w fun e w' => ∃ (mm : Mani) (v cv : Value) (vs : List Value) (st : St), e = .returned (.agg #[.int .i64 mm.frame, v, cv]) ∧ Hid ((parseR l N).2.e = 0 → mm = (parseR l N).1 ∧ ∃ k, st = .inl k) ∧ Hid ((parseR l N).2.e ≠ 0 → st = .inr ((parseR l N).2.e, (parseR l N).2.ln, (parseR l N).2.cl)) ∧ PR w' pb c B ew en eu es ex l st v ∧ KP pb c w w' ∧ Hid (Sep vs) ∧ PartsAt w' w.heap.size v mm.parts vs ∧ w'.ownsRow w.heap.size 92 6 cv mm.chans.length (chanRows mm.chans) := by
  have HTN : Hid _ := hN
  clear hN
  generalize hfinal : parseR l N = final
  have HFN : Hid _ := hfinal
  clear hfinal
  obtain ⟨i0, hi0, hz0, hz1, hz2⟩ := info_parts infoPartition
  obtain ⟨j0, hj0, hy0, hy1, hy2⟩ := info_parts infoChannel
  have h0 := QW.start h 34 (by decide) #[.int .i64 0, .slice none 0 0, .slice none 0 0] #[.int .i64 0, .slice none 0 0, .slice none 0 0]
  clear h
  go_enter Tryz.func91, Tryz.ntmps91
  go_wp2_with fail
  generalize (w.alloc (Obj.cells #[.int .i64 0, .slice none 0 0, .slice none 0 0] 34)).alloc (Obj.cells #[.int .i64 0, .slice none 0 0, .slice none 0 0] 34) = W0 at *
  generalize hr0 : (⟨0, 0, 0, 0⟩ : RS) = r at *
  refine (setting_r W0 pb c B ew en eu es ex l r (.slice none 0 0) _ kModule h0.rd (by decide) rfl).mono ?_
  rintro e W1 ⟨fv, rfl, V2, hr, hk⟩
  have h1 := h0.step hr hk
  clear hr hk h0
  have L1 : Hid (LeR r (mustR l r [kModule])) := mustR_le _ _ _
  generalize hq : mustR l r [kModule] = r1 at *
  have Q1 : Hid _ := hq
  clear hq
  have L2 : Hid (LeR r1 (numberR l r1).2) := numberR_le _ _
  generalize hq : numberR l r1 = q at *
  obtain ⟨y2, r2⟩ := q
  have Q2 : Hid _ := hq
  clear hq
  simp only [] at h1 V2 L2
  have L3 : Hid (LeR r2 (mustR l r2 [kSemi])) := mustR_le _ _ _
  generalize hq : mustR l r2 [kSemi] = r3 at *
  have Q3 : Hid _ := hq
  clear hq
  have x0 := h1.cell 0
  have f0 := h1.fz 0
  simp at x0
  go_wp2_with fail
  have h2 : QW w _ pb c B ew en eu es ex l r3 (.slice none 0 0) 34 _ #[.int .i64 fv, .slice none 0 0, .slice none 0 0] := h1.set 0 (.int .i64 fv)
  generalize W1.setCell ⟨w.heap.size + 1, 0, none⟩ (.int .i64 fv) = W2 at *
  clear h1 x0 f0
  have HV : Hid (r3.e = 0 → fv = y2) := by
    show r3.e = 0 → fv = y2
    intro E3
    exact V2.out (L3.out.back E3)
  have HZ : Hid (numberR l (mustR l ⟨0, 0, 0, 0⟩ [kModule]) = (y2, r2) ∧ mustR l r2 [kSemi] = r3) := by
    show _ ∧ _
    rw [hr0, Q1.out]; exact ⟨Q2.out, Q3.out⟩
  clear Q1 Q2 Q3 L1 L2 L3 V2 hr0
  generalize hfin : partsR l N N r3 [] = fin
  have HF : Hid (fin = partsR l N N r3 []) := hfin.symm
  have HF2 : Hid (fin = partsR l N N r3 []) := hfin.symm
  clear hfin
  go_loopg [] N (fun f wr => ∃ (ps pps : List Part) (ra : RS) (pv : Value) (vs : List Value), Hid (fin = partsR l N f ra pps) ∧ Hid (Sep vs) ∧ Hid (LeR r3 ra) ∧ Hid (ra.e = 0 → ps = pps ∧ ∀ nm ∈ pps.map Part.name, nm.length ≤ 16) ∧ leftR N ra ≤ f ∧ ps.length + f ≤ N ∧ QW w wr pb c B ew en eu es ex l ra pv 34 #[.int .i64 0, .slice none 0 0, .slice none 0 0] #[.int .i64 fv, .slice none 0 0, .slice none 0 0] ∧ PartsAt wr (w.heap.size + 2) pv ps vs)
  case atStart => exact ⟨[], [], r3, _, [], HF, List.Pairwise.nil, LeR.refl _, fun _ => ⟨rfl, by simp⟩, by unfold leftR; split <;> omega, by simp, h2, rfl, World.ownsRow_nil _ _ _ _, fun i a _ => absurd a (by simp)⟩
  case round =>
    obtain ⟨ps, pps, ra, pv, vs, HK, HSP, HLE, HAC, hf, hacc, hp, hpa⟩ := hrel
    clear HF h2
    go_wp2_with fail
    refine (at_r _ pb c B ew en eu es ex l ra pv _ kPartition hp.rd (by decide) rfl).mono ?_
    rintro e wq ⟨rfl, rfl⟩
    have hlt := hp.lt
    have hord := hp.rd.ord
    rcases hi : isR l ra kPartition with _ | _
    · have HX : Hid (fin = (pps, ra)) := HK.out.trans (partsR_stop _ _ _ _ _ hi)
      clear HK hi
      obtain ⟨va, vc, rfl⟩ := own_shape hpa.2.1
      have c7 := hp.rd.c7.1
      have x1 := hp.cell 1
      have f1 := hp.fz 1
      simp at x1
      go_wp2_with fail
      have hp1 : QW w _ pb c B ew en eu es ex l ra _ 34 _ #[.int .i64 fv, .slice va ps.length vc, .slice none 0 0] := hp.set 1 (.slice va ps.length vc)
      have hpa1 := hpa.kept (grown_set wq (w.heap.size + 1) 1 (.slice va ps.length vc)) (by intro k hk; injection hk; omega)
      generalize wq.setCell ⟨w.heap.size + 1, 1, none⟩ (.slice va ps.length vc) = V1 at *
      clear hp hpa c7 x1 f1
      generalize hfin2 : chansR l (pps.map Part.name) N ra [] = fin2
      have HG : Hid (fin2 = chansR l (pps.map Part.name) N ra []) := hfin2.symm
      have HG2 : Hid (fin2 = chansR l (pps.map Part.name) N ra []) := hfin2.symm
      clear hfin2
      go_loopg [] N (fun f wr => ∃ (cs pcs : List Chan) (rb : RS) (cv : Value), Hid (fin2 = chansR l (pps.map Part.name) f rb pcs) ∧ Hid (LeR ra rb) ∧ Hid (rb.e = 0 → cs = pcs) ∧ leftR N rb ≤ f ∧ cs.length + f ≤ N ∧ QW w wr pb c B ew en eu es ex l rb (.slice va ps.length vc) 34 #[.int .i64 0, .slice none 0 0, .slice none 0 0] #[.int .i64 fv, .slice va ps.length vc, cv] ∧ PartsAt wr (w.heap.size + 2) (.slice va ps.length vc) ps vs ∧ wr.ownsRow (w.heap.size + 2) 92 6 cv cs.length (chanRows cs))
      case atStart => exact ⟨[], [], ra, _, HG, LeR.refl _, fun _ => rfl, by unfold leftR; split <;> omega, by simp, hp1, hpa1, World.ownsRow_nil _ _ _ _⟩
      case round =>
        obtain ⟨cs, pcs, rb, cv, HK2, HLE2, HAC2, hf2, hacc2, hp, hpa, hco⟩ := hrel
        clear HG hp1 hpa1
        go_wp2_with fail
        refine (at_r _ pb c B ew en eu es ex l rb _ _ kChannel hp.rd (by decide) rfl).mono ?_
        rintro e wz ⟨rfl, rfl⟩
        rcases hi : isR l rb kChannel with _ | _
        · have HX2 : Hid (fin2 = (pcs, rb)) := HK2.out.trans (chansR_stop _ _ _ _ _ hi)
          clear HK2 hi
          go_wp2_with fail
          refine (expect_any wz pb c B ew en eu es ex l (absS l rb) _ ⟨#[]⟩ hp.rd).mono ?_
          rintro e V3 ⟨rfl, hr, hk⟩
          have hpa2 := hpa.kq hk hlt hord (by omega)
          have hco2 := own_kq hco hk hlt hord (by omega)
          have hres := KP.kp hp.res hk (by omega) (by omega) (by omega)
          have hloc := KP.kp hp.loc hk (by omega) (by omega) (by omega)
          have hkk := hp.kp.trans hk
          clear hk hp hpa hco
          obtain ⟨ca, cc, rfl⟩ := own_shape hco2
          have x0 : V3.cell? ⟨w.heap.size + 1, 0, none⟩ = some (.int .i64 fv) := by rw [cell_of_blk hloc]; rfl
          have x1 : V3.cell? ⟨w.heap.size + 1, 1, none⟩ = some (.slice va ps.length vc) := by rw [cell_of_blk hloc]; rfl
          have x2 : V3.cell? ⟨w.heap.size + 1, 2, none⟩ = some (.slice ca cs.length cc) := by rw [cell_of_blk hloc]; rfl
          have z0 : V3.cell? ⟨w.heap.size, 0, none⟩ = some (.int .i64 0) := by rw [cell_of_blk hres]; rfl
          have z1 : V3.cell? ⟨w.heap.size, 1, none⟩ = some (.slice none 0 0) := by rw [cell_of_blk hres]; rfl
          have z2 : V3.cell? ⟨w.heap.size, 2, none⟩ = some (.slice none 0 0) := by rw [cell_of_blk hres]; rfl
          have f0 : ∀ i, V3.frozen? ⟨w.heap.size, i, none⟩ = false := fun i => frozen_of_blk hres
          have hB1 := lt_of_blk hloc
          have HQ : Hid (parseR l N = (⟨y2, pps, pcs⟩, if rb.e = 0 ∧ (tk l rb.at').sort ≠ 0 then failR l rb 1 else rb)) := by
            have hx := HX.out
            have hx2 := HX2.out
            have hz := HZ.out
            show _ = _
            simp only [parseR]
            rw [hz.1]
            simp only [hz.2]
            rw [← HF2.out, hx]
            simp only []
            rw [← HG2.out, hx2]
          have HE : Hid (rb.e = 0 → fv = y2 ∧ ps = pps ∧ cs = pcs) := by
            show _ → _
            intro he
            have h1 := HLE2.out.back he
            exact ⟨HV.out (HLE.out.back h1), (HAC.out h1).1, HAC2.out he⟩
          rw [HFN.out] at HQ
          clear HFN HX HX2 HZ HF2 HG2 HLE HLE2 HAC HAC2 HV
          go_wp2_with fail
          have far : ∀ (i : Nat) (u : Value) (X : World), (∃ o, X.heap[w.heap.size]? = some (.cells o 34 (0, 0))) ∧ PR X pb c B ew en eu es ex l (expP l [] (absS l rb)) (.slice va ps.length vc) ∧ KP pb c w X ∧ PartsAt X (w.heap.size + 2) (.slice va ps.length vc) ps vs ∧ X.ownsRow (w.heap.size + 2) 92 6 (.slice ca cs.length cc) cs.length (chanRows cs) →
              (∃ o, (X.setCell ⟨w.heap.size, i, none⟩ u).heap[w.heap.size]? = some (.cells o 34 (0, 0))) ∧ PR (X.setCell ⟨w.heap.size, i, none⟩ u) pb c B ew en eu es ex l (expP l [] (absS l rb)) (.slice va ps.length vc) ∧ KP pb c w (X.setCell ⟨w.heap.size, i, none⟩ u) ∧ PartsAt (X.setCell ⟨w.heap.size, i, none⟩ u) (w.heap.size + 2) (.slice va ps.length vc) ps vs ∧ (X.setCell ⟨w.heap.size, i, none⟩ u).ownsRow (w.heap.size + 2) 92 6 (.slice ca cs.length cc) cs.length (chanRows cs) := by
            rintro i u X ⟨⟨o, h1⟩, h2, h3, h4, h5⟩
            exact ⟨⟨_, blk_set i u h1⟩, h2.setFar h1 (by decide) hlt i u, h3.setNew i u (Nat.le_refl _), h4.kept (grown_set X _ i u) (by intro k hk; injection hk; omega), own_kept h5 (grown_set X _ i u) (by intro k hk; injection hk; omega)⟩
          have hall := far 2 (.slice ca cs.length cc) _ (far 1 (.slice va ps.length vc) _ (far 0 (.int .i64 fv) V3 ⟨⟨_, hres⟩, hr, hkk, hpa2, hco2⟩))
          refine bodyPost_ret (v := .agg #[.int .i64 fv, .slice va ps.length vc, .slice ca cs.length cc]) (by simp [results, Tryz.results91, go_sem, z0, z1, z2]) rfl ⟨⟨fv, ps, cs⟩, _, _, vs, expP l [] (absS l rb), rfl, ?_, ?_, hall.2.1, hall.2.2.1, HSP, ⟨hall.2.2.2.1.1, own_mono hall.2.2.2.1.2.1 (by omega), fun i a d => own_mono (hall.2.2.2.1.2.2 i a d) (by omega)⟩, own_mono hall.2.2.2.2 (by omega)⟩
          · intro he
            rw [HQ.out] at he ⊢
            simp only [] at he
            by_cases hq : rb.e = 0 ∧ (tk l rb.at').sort ≠ 0
            · rw [if_pos hq] at he; exact absurd he (fail_e l rb)
            · rw [if_neg hq] at he
              obtain ⟨a1, a2, a3⟩ := HE.out he
              refine ⟨by rw [a1, a2, a3], _, final_ok l rb he ?_⟩
              rcases Nat.eq_zero_or_pos (tk l rb.at').sort with h0 | h0
              · exact h0
              · exact absurd ⟨he, by omega⟩ hq
          · intro he
            rw [HQ.out] at he ⊢
            simp only [] at he ⊢
            by_cases hq : rb.e = 0 ∧ (tk l rb.at').sort ≠ 0
            · rw [if_pos hq, final_bad l rb hq.1 hq.2, abs_dead (fail_e l rb)]
            · rw [if_neg hq] at he ⊢
              rw [final_dead l rb he, abs_dead he]
        · have heb := isR_e hi
          have hgk : 1 ≤ gk := by unfold leftR at hf2; rw [if_neg (by simp [heb])] at hf2; have := is_lt HTN.out hi; omega
          have hh := HAC.out (HLE2.out.back heb)
          obtain ⟨hpe, hnl⟩ := hh
          have HNL : Hid _ := hnl
          clear hnl
          subst hpe
          have HXX : Hid (fin2 = chansR l (ps.map Part.name) (gk - 1) (channelR l (ps.map Part.name) rb).2 (pcs ++ [(channelR l (ps.map Part.name) rb).1])) := by
            have := HK2.out
            obtain ⟨m, rfl⟩ : ∃ m, gk = m + 1 := ⟨gk - 1, by omega⟩
            rw [chansR_on _ _ _ _ _ hi] at this; exact this
          have HL : Hid (leftR N (channelR l (ps.map Part.name) rb).2 ≤ gk - 1) := by
            have h1 := left_lt (N := N) (r := rb) (is_lt HTN.out hi) heb (channelR_le l (ps.map Part.name) rb hi)
            show _ ≤ _; omega
          have HL2 : Hid (LeR ra (channelR l (ps.map Part.name) rb).2) := HLE2.out.trans ((nextR_le rb).trans (channelR_le l (ps.map Part.name) rb hi))
          have HCE : Hid (cs = pcs) := HAC2.out heb
          clear HK2 hi hf2 HAC2 HLE2
          have hpsl : ps.length ≤ 8193 := by omega
          have x4 := hp.cell 2
          have f4 := hp.fz 2
          have hB1 := lt_of_blk hp.loc
          simp at x4
          have hpd : QW w wz.drew pb c B ew en eu es ex l rb _ 34 _ _ := hp.aside (grown_drewN wz 1 none) (by simp)
          have hpad : PartsAt wz.drew (w.heap.size + 2) (.slice va ps.length vc) ps vs := hpa.kept (grown_drewN wz 1 none) (by simp)
          have hcod : wz.drew.ownsRow (w.heap.size + 2) 92 6 cv cs.length (chanRows cs) := own_kept hco (grown_drewN wz 1 none) (by simp)
          clear hp hpa hco
          go_wp2_with fail
          go_region_law (first
            | (refine step_append_lies _ (by rfl) _ _ _ (by rfl) (w.heap.size + 2) 92 j0 _ 6 56 Tryz.underlying32 hj0 hy0 hy1 hy2 rfl (by omega) cv cs.length (chanRows cs) (by rfl) (hco2.alloc _) ⟨V2.heap.size, 0, none⟩ 1 1 [.string ⟨gg.name.toArray⟩, .int .i64 gg.source, .int .i64 gg.target, .int .i64 gg.kind, .int .i64 gg.size, .int .i64 gg.depth] (by rfl) (by rfl) (World.news_of_block (cs := #[.string ⟨gg.name.toArray⟩, .int .i64 gg.source, .int .i64 gg.target, .int .i64 gg.kind, .int .i64 gg.size, .int .i64 gg.depth]) (t := 92) (fr := (0, 0)) (heap_new V2 _)) (by simp [Value.oneCell']) (by omega) (by unfold maxLen; omega) (by omega) (by simp; omega) (V2.heap.size + 1) (by simp) ?_; intro g9 c9 V9 hown3 hgrow hat9 hlt9
               have hp9 := (hp2.aside (grown_alloc V2 (.cells #[.string ⟨gg.name.toArray⟩, .int .i64 gg.source, .int .i64 gg.target, .int .i64 gg.kind, .int .i64 gg.size, .int .i64 gg.depth] 92) none) (by simp)).aside hgrow (own_row hco2 (by omega) (by decide))
               have hpa9 := (hpa2.kept (grown_alloc V2 (.cells #[.string ⟨gg.name.toArray⟩, .int .i64 gg.source, .int .i64 gg.target, .int .i64 gg.kind, .int .i64 gg.size, .int .i64 gg.depth] 92) none) (by simp)).apart (hco2.alloc _) (by decide) (by decide) hgrow
               have x9 := hp9.cell 2
               have f9 := hp9.fz 2
               simp at x9)
            | (go_simp; go_at_call 146; refine (pchannel_r wz.drew pb c B ew en eu es ex l rb _ (ps.map Part.name) hpd.rd (fun w' hk => (hpad.kq hk hlt hord (by omega)).partT) (by simp; omega) HNL.out).mono ?_; rintro e V2 ⟨gg, rfl, HG, hr, hk⟩
               have hp2 := hpd.step hr hk
               have hco2 := own_kq hcod hk hlt hord (by omega)
               have hpa2 := hpad.kq hk hlt hord (by omega)
               have x5 := hp2.cell 2
               have f5 := hp2.fz 2
               have hB2 := lt_of_blk hp2.loc
               simp at x5))
          all_goals
            have q10 : QW w _ pb c B ew en eu es ex l (channelR l (ps.map Part.name) rb).2 _ 34 _ #[.int .i64 fv, .slice va ps.length vc, .slice (some ⟨g9, 0, none⟩) (cs.length + 1) c9] := hp9.set 2 (.slice (some ⟨g9, 0, none⟩) (cs.length + 1) c9)
            have hpa10 := hpa9.kept (grown_set V9 (w.heap.size + 1) 2 (.slice (some ⟨g9, 0, none⟩) (cs.length + 1) c9)) (by intro k hk; injection hk; omega)
            have o10 := own_kept hown3 (grown_set V9 (w.heap.size + 1) 2 (.slice (some ⟨g9, 0, none⟩) (cs.length + 1) c9)) (by intro k hk; injection hk; omega)
            go_wp2_with fail
            go_roundg (gk - 1)
            case measure => omega
            case rel =>
              refine ⟨cs ++ [gg], pcs ++ [(channelR l (ps.map Part.name) rb).1], (channelR l (ps.map Part.name) rb).2, _, HXX, HL2, fun he => ?_, HL.out, by simp; omega, q10, hpa10, by simpa [chanRows_snoc, chanCells] using o10⟩
              rw [HCE.out, HG.out he]
    · have hea := isR_e hi
      have hgk : 1 ≤ gk := by unfold leftR at hf; rw [if_neg (by simp [hea])] at hf; have := is_lt HTN.out hi; omega
      have HX : Hid (fin = partsR l N (gk - 1) (partitionR l N ra).2 (pps ++ [(partitionR l N ra).1])) := by
        have := HK.out
        obtain ⟨m, rfl⟩ : ∃ m, gk = m + 1 := ⟨gk - 1, by omega⟩
        rw [partsR_on _ _ _ _ _ hi] at this; exact this
      have HL : Hid (leftR N (partitionR l N ra).2 ≤ gk - 1) := by
        have h1 := left_lt (N := N) (r := ra) (is_lt HTN.out hi) hea (partitionR_le l N ra hi)
        show _ ≤ _; omega
      have HL2 : Hid (LeR r3 (partitionR l N ra).2) := HLE.out.trans ((nextR_le ra).trans (partitionR_le l N ra hi))
      have HAE : Hid (ps = pps ∧ ∀ nm ∈ pps.map Part.name, nm.length ≤ 16) := HAC.out hea
      clear HK hi hf HAC HLE
      have c7 := hp.rd.c7.1
      have hB1 := lt_of_blk hp.loc
      have hsz : w.heap.size + 2 ≤ wq.heap.size := by omega
      have hpd : QW w wq.drew pb c B ew en eu es ex l ra pv 34 _ _ := hp.aside (grown_drewN wq 1 none) (by simp)
      have hpad : PartsAt wq.drew (w.heap.size + 2) pv ps vs := hpa.kept (grown_drewN wq 1 none) (by simp)
      clear hp hpa
      go_wp2_with fail
      go_region_law (first
        | (refine step_append_lies _ (by rfl) _ _ _ (by rfl) (w.heap.size + 2) 42 i0 _ 5 64 Tryz.underlying31 hi0 hz0 hz1 hz2 rfl (by omega) pv ps.length (partRows ps vs) (by rfl) (hpa2.2.1.alloc _) ⟨V2.heap.size, 0, none⟩ 1 1 [.string ⟨gg.name.toArray⟩, .int .i64 gg.period, .int .i64 gg.duration, .int .i64 gg.action, .slice ua gg.regs.length uc] (by rfl) (by rfl) (World.news_of_block (cs := #[.string ⟨gg.name.toArray⟩, .int .i64 gg.period, .int .i64 gg.duration, .int .i64 gg.action, .slice ua gg.regs.length uc]) (t := 42) (fr := (0, 0)) (heap_new V2 _)) (by simp [Value.oneCell']) (by omega) (by unfold maxLen; omega) (by omega) (by simp; omega) (V2.heap.size + 1) (by simp) ?_; intro g9 c9 V9 hown3 hgrow hat9 hlt9
           have hp9 := (hp2.aside (grown_alloc V2 (.cells #[.string ⟨gg.name.toArray⟩, .int .i64 gg.period, .int .i64 gg.duration, .int .i64 gg.action, .slice ua gg.regs.length uc] 42) none) (by simp)).aside hgrow (own_row hpa2.2.1 (by omega) (by decide))
           have hpa9 := PartsAt.snoc (p := gg) (hpa2.kept (grown_alloc V2 (.cells #[.string ⟨gg.name.toArray⟩, .int .i64 gg.period, .int .i64 gg.duration, .int .i64 gg.action, .slice ua gg.regs.length uc] 42) none) (by simp)) (hou2.alloc _) hgrow hown3
           have x9 := hp9.rd.c7.1
           have f9 := hp9.rd.c7.2)
        | (go_simp; go_at_call 145; refine (ppartition_r wq.drew pb c B ew en eu es ex N l ra pv hpd.rd HTN.out hN2).mono ?_; rintro e V2 ⟨gg, u, rfl, HG, hr, hk, hou⟩
           have hp2 := hpd.step hr hk
           have hpa2 := hpad.kq hk hlt hord (by omega)
           have hou2 := own_mono hou (show w.heap.size + 2 ≤ wq.drew.heap.size from hsz)
           obtain ⟨ua, uc, rfl⟩ := own_shape hou2
           have x5 := hp2.rd.c7.1
           have hB3 : pb < V2.heap.size := hp2.rd.lt
           have hB2 := lt_of_blk hp2.loc))
      all_goals
        have q10 := hp9.setPv (some ⟨g9, 0, none⟩) (ps.length + 1) c9
        have hpa10 := hpa9.kept (grown_set V9 pb 7 (.slice (some ⟨g9, 0, none⟩) (ps.length + 1) c9)) (by intro k hk; injection hk; omega)
        go_wp2_with fail
        go_roundg (gk - 1)
        case measure => omega
        case rel =>
          refine ⟨ps ++ [gg], pps ++ [(partitionR l N ra).1], (partitionR l N ra).2, _, _, HX, Sep.snoc HSP.out hpad (Nat.le_refl _) hou, HL2, fun he => ?_, HL.out, by simp; omega, q10, by simpa using hpa10⟩
          have hg := HG.out he
          obtain ⟨a1, a2⟩ := HAE.out
          refine ⟨by rw [a1, hg], ?_⟩
          intro nm hnm
          simp only [List.map_append, List.mem_append, List.map_cons, List.map_nil, List.mem_singleton] at hnm
          rcases hnm with hnm | hnm
          · exact a2 nm hnm
          · rw [hnm]; exact part_len l N ra he
end Go.Proofs.YteioennfpkoagaaGreatDoor
