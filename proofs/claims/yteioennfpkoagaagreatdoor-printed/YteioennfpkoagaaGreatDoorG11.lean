import Derived.Test.YteioennfpkoagaaGreatDoorG10
namespace Go.Proofs.YteioennfpkoagaaGreatDoor
open Go.RowKit
attribute [local go_sem ↓] Go.wp_at_zero Go.wp_at_succ

theorem infoPartition : (Tryz.prog.info? 42).map (fun i => (i.zero, i.size, i.bytes)) = some (some (.agg #[.string ⟨#[]⟩, .int .i64 0, .int .i64 0, .int .i64 0, .slice none 0 0]), 5, 64) := by kernel_rfl
theorem infoChannel : (Tryz.prog.info? 92).map (fun i => (i.zero, i.size, i.bytes)) = some (some (.agg #[.string ⟨#[]⟩, .int .i64 0, .int .i64 0, .int .i64 0, .int .i64 0, .int .i64 0]), 6, 56) := by kernel_rfl

/- what came before a block is kept where only blocks below the base, or new ones, are written -/
theorem own_kept {w w' : World} {base e size n : Nat} {v : Value} {xs : List Value} {row : Option Nat} (h : w.ownsRow base e size v n xs) (hg : w.grownBy w' row) (hr : ∀ k, row = some k → k < base ∨ w.heap.size ≤ k) : w'.ownsRow base e size v n xs :=
  h.kept hg (by
    cases hv : v.ownBlock with
    | none => exact .inl rfl
    | some k => right; intro hk; have h1 := h.lt k hv; have h2 := hr k hk.symm; omega)
theorem PartsAt.kept {w w' : World} {base : Nat} {v : Value} {ps : List Part} {vs : List Value} {row : Option Nat} (h : PartsAt w base v ps vs) (hg : w.grownBy w' row) (hr : ∀ k, row = some k → k < base ∨ w.heap.size ≤ k) : PartsAt w' base v ps vs :=
  ⟨h.1, own_kept h.2.1 hg hr, fun i h1 h2 => own_kept (h.2.2 i h1 h2) hg hr⟩
theorem own_apart {w w' : World} {base base' e e' size size' n n' : Nat} {v v' : Value} {xs xs' : List Value} (h : w.ownsRow base e size v n xs) (h' : w.ownsRow base' e' size' v' n' xs') (hne : e ≠ e') (hg : w.grownBy w' v'.ownBlock) : w'.ownsRow base e size v n xs :=
  h.kept hg (by
    cases hv : v.ownBlock with
    | none => exact .inl rfl
    | some k => right; intro hk; exact own_types h h' hne hv hk.symm)
theorem PartsAt.apart {w w' : World} {base base' e' size' n' : Nat} {v v' : Value} {ps : List Part} {vs xs' : List Value} (h : PartsAt w base v ps vs) (h' : w.ownsRow base' e' size' v' n' xs') (h1 : 42 ≠ e') (h2 : 90 ≠ e') (hg : w.grownBy w' v'.ownBlock) : PartsAt w' base v ps vs :=
  ⟨h.1, own_apart h.2.1 h' h1 hg, fun i a b => own_apart (h.2.2 i a b) h' h2 hg⟩
/- one more partition -/
theorem PartsAt.snoc {w w' : World} {base gg cc : Nat} {v u : Value} {ps : List Part} {vs : List Value} {p : Part} (h : PartsAt w base v ps vs) (hu : w.ownsRow base 90 3 u p.regs.length (regRows p.regs)) (hg : w.grownBy w' v.ownBlock)
    (ho : w'.ownsRow base 42 5 (.slice (some ⟨gg, 0, none⟩) (ps.length + 1) cc) (ps.length + 1) (partRows ps vs ++ partCells p u)) : PartsAt w' base (.slice (some ⟨gg, 0, none⟩) (ps.length + 1) cc) (ps ++ [p]) (vs ++ [u]) := by
  have hr : ∀ {x : Value} {n : Nat} {xs : List Value}, w.ownsRow base 90 3 x n xs → w'.ownsRow base 90 3 x n xs := fun hx => own_apart hx h.2.1 (by decide) hg
  refine ⟨by simp [h.1], ?_, ?_⟩
  · rw [partRows_snoc _ _ h.1]; simpa using ho
  · intro i h1 h2
    by_cases hi : i < ps.length
    · have := hr (h.2.2 i hi (by have := h.1; omega))
      rw [List.getElem_append_left hi, List.getElem_append_left (by have := h.1; omega)]
      exact this
    · have e1 : i = ps.length := by simp at h1; omega
      subst e1
      have e2 : vs.length = ps.length := h.1.symm
      rw [List.getElem_append_right (by omega), List.getElem_append_right (by omega)]
      simp [e2]
      exact hr hu

theorem heap_new2 (w : World) (o o' : Obj) : ((w.alloc o).alloc o').heap[w.heap.size + 1]? = some o' := by
  have := heap_new (w.alloc o) o'
  simpa using this
def zMani : Array Value := #[.int .i64 0, .slice none 0 0, .slice none 0 0]

set_option maxRecDepth 100000 in
set_option maxHeartbeats 400000 in
theorem refParse_long (s : ByteArray) (w : World) (hs : 8192 < s.size) :
    Calls Tryz.prog 36 #[.string s] w fun e w' => e = .returned (.tuple #[.agg #[.int .i64 0, .slice none 0 0, .slice none 0 0], .agg #[.int .i64 0, .int .i64 0], .int .i64 14]) ∧ Below w.heap.size w w' := by
  have h1 : (8192 : Int) < (s.size : Int) := by omega
  go_enter Tryz.func36, Tryz.ntmps36
  go_wp2_with fail
  refine bodyPost_ret (v := .tuple #[.agg #[.int .i64 0, .slice none 0 0, .slice none 0 0], .agg #[.int .i64 0, .int .i64 0], .int .i64 14]) (by simp [results, Tryz.results36, go_sem]) rfl ⟨rfl, ?_⟩
  exact ((Below.refl _ _).alloc (Nat.le_refl _) _).alloc (by simp) _

set_option maxRecDepth 100000 in
set_option maxHeartbeats 1000000 in
theorem refParse_any (s : ByteArray) (w : World) (hs : s.size ≤ 8192) :
    Calls Tryz.prog 36 #[.string s] w fun e w' => Below w.heap.size w w' ∧ ∃ N, TokN s.data.toList N ∧
      ((parseR s.data.toList N).2.e ≠ 0 ∧ e = .returned (.tuple #[.agg #[.int .i64 0, .slice none 0 0, .slice none 0 0], .agg #[.int .i64 (parseR s.data.toList N).2.ln, .int .i64 (parseR s.data.toList N).2.cl], .int .i64 (parseR s.data.toList N).2.e]) ∨
       (parseR s.data.toList N).2.e = 0 ∧ ∃ v vs cv, e = .returned (.tuple #[.agg #[.int .i64 (parseR s.data.toList N).1.frame, v, cv], .agg #[.int .i64 0, .int .i64 0], .int .i64 0]) ∧ PartsAt w' w.heap.size v (parseR s.data.toList N).1.parts vs ∧ w'.ownsRow w.heap.size 92 6 cv (parseR s.data.toList N).1.chans.length (chanRows (parseR s.data.toList N).1.chans)) := by
  obtain ⟨i0, hi0, hz0, hz1, hz2⟩ := info_parts infoPartition
  obtain ⟨j0, hj0, hy0, hy1, hy2⟩ := info_parts infoChannel
  have h1 : ¬ (8192 : Int) < (s.size : Int) := by omega
  have hlen : s.data.toList.length ≤ 8192 := by simpa using hs
  go_enter Tryz.func36, Tryz.ntmps36
  go_wp2_with fail
  refine (tokens_any s _ hs).mono ?_
  rintro e W1 ⟨n, g, cap, rfl, hpn, hpj, hown, hb⟩
  have hb1 : Below w.heap.size w W1 := (((Below.refl _ _).alloc (Nat.le_refl _) _).alloc (by simp) _).trans (hb.mono (by simp; omega))
  have hn : pos s.data.toList (n + 1 - 1) = s.data.toList.length := by simpa using hpn
  have hn' : n ≤ 8192 := by have := pos_ge s.data.toList n (by simpa using hpj); omega
  have HTN : Hid (TokN s.data.toList (n + 1)) := ⟨by omega, hn, by simpa using hpj⟩
  have r0 : W1.heap[w.heap.size]? = some (.cells #[.int .i64 0, .slice none 0 0, .slice none 0 0] 34 (0, 0)) := by
    rw [hb.block _ (by simp; omega)]
    rw [Below.heap_alloc _ _ _ (by simp), heap_new]
  have r1 : W1.heap[w.heap.size + 1]? = some (.cells #[.int .i64 0, .int .i64 0] 36 (0, 0)) := by
    rw [hb.block _ (by simp)]
    have := heap_new (w.alloc (.cells #[.int .i64 0, .slice none 0 0, .slice none 0 0] 34)) (.cells #[.int .i64 0, .int .i64 0] 36)
    simpa using this
  have hg0 : w.heap.size + 1 < g ∧ g < W1.heap.size := by have := hown.lt g rfl; simp at this; omega
  have htb := tokB_of hown
  have hN : n + 1 ≤ 8193 := by omega
  generalize n + 1 = N at *
  clear hpn hpj hown hb h1
  generalize hll : s.data.toList = l at *
  have HLL : Hid _ := hll
  clear hll
  go_wp2_with fail
  have hgg : W1.grownBy ((W1.alloc (Obj.cells #[.slice (some ⟨g, 0, none⟩) N cap, .int .i64 0, .int .i64 0, .int .i64 0, .int .i64 0] 160)).alloc (Obj.cells #[.int .i64 0, .slice none 0 0, .slice none 0 0] 34)) none := grown_trans (grown_alloc _ _ _) (grown_alloc _ _ _)
  have q0 : FW w ((W1.alloc (Obj.cells #[.slice (some ⟨g, 0, none⟩) N cap, .int .i64 0, .int .i64 0, .int .i64 0, .int .i64 0] 160)).alloc (Obj.cells #[.int .i64 0, .slice none 0 0, .slice none 0 0] 34)) W1.heap.size g N cap (W1.heap.size + 1) l ⟨0, 0, 0, 0⟩ #[.int .i64 0, .slice none 0 0, .slice none 0 0] := by
    refine ⟨⟨?_, htb.kept hgg (by simp), by omega, HTN.out.1⟩, ?_, ?_, ?_, ?_, by have := hb1.size; have := hg0; omega, hg0.1, by omega, by have := hg0; omega⟩
    · rw [Below.heap_alloc _ _ _ (by simp), heap_new]; rfl
    · rw [hgg.block _ (lt_of_blk r0) (by simp)]; exact r0
    · rw [hgg.block _ (lt_of_blk r1) (by simp)]; exact r1
    · have := heap_new (W1.alloc (Obj.cells #[.slice (some ⟨g, 0, none⟩) N cap, .int .i64 0, .int .i64 0, .int .i64 0, .int .i64 0] 160)) (Obj.cells #[.int .i64 0, .slice none 0 0, .slice none 0 0] 34)
      simpa using this
    · exact below_grown hb1 hb1.size hgg (by simp)
  generalize (W1.alloc (Obj.cells #[.slice (some ⟨g, 0, none⟩) N cap, .int .i64 0, .int .i64 0, .int .i64 0, .int .i64 0] 160)).alloc (Obj.cells #[.int .i64 0, .slice none 0 0, .slice none 0 0] 34) = V0 at *
  clear hgg r0 r1 htb hb1 hg0 hn'
  generalize W1.heap.size = b at *
  clear W1
  refine (must_w V0 b g N cap l ⟨0, 0, 0, 0⟩ _ [kModule] q0.rd hlen hn hN (by decide) (by decide)).mono ?_
  rintro e V1 ⟨rfl, hr, hg⟩
  have q1 := q0.step hr hg
  clear hr hg q0
  generalize hq : mustR l ⟨0, 0, 0, 0⟩ [kModule] = s1 at *
  have Q1 : Hid _ := hq
  clear hq
  go_wp2_with fail
  refine (number_any V1 b g N cap l s1 q1.rd hlen hn hN).mono ?_
  rintro e V2 ⟨rfl, hr, hg⟩
  have q2 := q1.step hr hg
  clear hr hg q1
  generalize hq : numberR l s1 = q at *
  obtain ⟨fv, s2⟩ := q
  have Q2 : Hid _ := hq
  clear hq
  simp only [] at q2
  have x0 := q2.cell 0
  have f0 := q2.fz 0
  simp at x0
  go_wp2_with fail
  have q3 : FW w _ b g N cap (b + 1) l s2 #[.int .i64 fv, .slice none 0 0, .slice none 0 0] := q2.set 0 (.int .i64 fv)
  generalize V2.setCell ⟨b + 1, 0, none⟩ (.int .i64 fv) = V3 at *
  clear q2 x0 f0
  refine (must_w V3 b g N cap l s2 _ [kSemi] q3.rd hlen hn hN (by decide) (by decide)).mono ?_
  rintro e V4 ⟨rfl, hr, hg⟩
  have q4 := q3.step hr hg
  clear hr hg q3
  generalize hq : mustR l s2 [kSemi] = s3 at *
  have Q3 : Hid _ := hq
  clear hq
  go_wp2_with fail
  generalize hfin : partsR l N N s3 [] = fin
  have HF : Hid (fin = partsR l N N s3 []) := hfin.symm
  have HF2 : Hid (fin = partsR l N N s3 []) := hfin.symm
  clear hfin
  go_loopg [] N (fun f wr => ∃ acc vs r1 v, Hid (fin = partsR l N f r1 acc) ∧ leftR N r1 ≤ f ∧ acc.length + f ≤ N ∧ FW w wr b g N cap (b + 1) l r1 #[.int .i64 fv, v, .slice none 0 0] ∧ PartsAt wr (b + 2) v acc vs)
  case atStart => exact ⟨[], [], s3, _, HF, by unfold leftR; split <;> omega, by simp, q4, rfl, World.ownsRow_nil _ _ _ _, fun i h => by simp at h⟩
  case round =>
    obtain ⟨acc, vs, r10, v, HK, hf, hacc, hp, hpa⟩ := hrel
    clear HF q4
    go_wp2_with fail
    refine (is_any wr b g N cap l r10 _ hp.rd).mono ?_
    rintro e w2 ⟨rfl, q, rfl⟩
    have hp1 := hp.step (hp.rd.drewN q) (grown_drewN wr q _)
    have hpa1 := hpa.kept (grown_drewN wr q none) (by simp)
    generalize wr.drewN q = V5 at *
    clear hp hpa
    cases hi : isR l r10 kPartition
    · have hi' : isR l r10 [112, 97, 114, 116, 105, 116, 105, 111, 110] = false := hi
      have HX : Hid (fin = (acc, r10)) := HK.out.trans (partsR_stop _ _ _ _ _ hi)
      clear HK hi
      go_wp2_with fail
      have HR0 : Hid (parseR l N = (let c := chansR l (acc.map Part.name) N r10 []; (⟨fv, acc, c.1⟩, if c.2.e = 0 ∧ (tk l c.2.at').sort ≠ 0 then failR l c.2 1 else c.2))) := by
        show _ = _
        have h1 := HF2.out
        rw [HX.out] at h1
        unfold parseR
        simp only [Q1.out, Q2.out, Q3.out, ← h1]
      clear Q1 Q2 Q3 HF2 HX hf
      generalize hfin : chansR l (acc.map Part.name) N r10 [] = fin2 at HR0
      have HC : Hid (fin2 = chansR l (acc.map Part.name) N r10 []) := hfin.symm
      clear hfin
      go_loopg [] N (fun f wr => ∃ cacc r1 cv, Hid (fin2 = chansR l (acc.map Part.name) f r1 cacc) ∧ leftR N r1 ≤ f ∧ cacc.length + f ≤ N ∧ FW w wr b g N cap (b + 1) l r1 #[.int .i64 fv, v, cv] ∧ PartsAt wr (b + 2) v acc vs ∧ wr.ownsRow (b + 2) 92 6 cv cacc.length (chanRows cacc))
      case atStart => exact ⟨[], r10, _, HC, by unfold leftR; split <;> omega, by simp, hp1, hpa1, World.ownsRow_nil _ _ _ _⟩
      case round =>
        obtain ⟨cacc, r20, cv, HK, hf, hcacc, hp, hpa, hco⟩ := hrel
        clear HC hp1 hpa1
        go_wp2_with fail
        refine (is_any wr b g N cap l r20 _ hp.rd).mono ?_
        rintro e w2 ⟨rfl, q, rfl⟩
        have hp1 := hp.step (hp.rd.drewN q) (grown_drewN wr q _)
        have hpa1 := hpa.kept (grown_drewN wr q none) (by simp)
        have hco1 := own_kept hco (grown_drewN wr q none) (by simp)
        generalize wr.drewN q = V6 at *
        clear hp hpa hco
        cases hi2 : isR l r20 kChannel
        · have hi3 : isR l r20 [99, 104, 97, 110, 110, 101, 108] = false := hi2
          have HY : Hid (fin2 = (cacc, r20)) := HK.out.trans (chansR_stop _ _ _ _ _ hi2)
          clear HK hi2
          go_wp2_with fail
          have c0 := hp1.rd.c0
          have c1 := hp1.rd.c1
          have c2 := hp1.rd.c2
          have t0 := hp1.rd.t0
          have hl : (r20.at' : Int) < (N : Int) := by have := hp1.rd.lt; omega
          have h0 : (0 : Int) ≤ (r20.at' : Int) := by omega
          have HP : Hid (parseR l N = (⟨fv, acc, cacc⟩, if r20.e = 0 ∧ (tk l r20.at').sort ≠ 0 then failR l r20 1 else r20)) := by
            have := HR0.out
            rw [HY.out] at this
            exact this
          clear HR0 HY hf
          by_cases he : r20.e = 0
          · have hz1 : ((r20.e : Int) == 0) = true := by simp; omega
            by_cases hso : (tk l r20.at').sort = 0
            · have hz2 : (((tk l r20.at').sort : Int) != 0) = false := by simp; omega
              go_wp2_with fail
              go_quiet (fail)
              have hp2 := hp1.step (hp1.rd.drewN nq) (grown_drewN V6 nq _)
              have hpa2 := hpa1.kept (grown_drewN V6 nq none) (by simp)
              have hco2 := own_kept hco1 (grown_drewN V6 nq none) (by simp)
              generalize V6.drewN nq = V7 at *
              clear c0 c1 c2 t0 hp1 hpa1 hco1
              have c2 := hp2.rd.c2
              have z0 : V7.cell? ⟨w.heap.size, 0, none⟩ = some (.int .i64 0) := by rw [cell_of_blk hp2.res0]; rfl
              have z1 : V7.cell? ⟨w.heap.size, 1, none⟩ = some (.slice none 0 0) := by rw [cell_of_blk hp2.res0]; rfl
              have z2 : V7.cell? ⟨w.heap.size, 2, none⟩ = some (.slice none 0 0) := by rw [cell_of_blk hp2.res0]; rfl
              have p0 : V7.cell? ⟨w.heap.size + 1, 0, none⟩ = some (.int .i64 0) := by rw [cell_of_blk hp2.res1]; rfl
              have p1 : V7.cell? ⟨w.heap.size + 1, 1, none⟩ = some (.int .i64 0) := by rw [cell_of_blk hp2.res1]; rfl
              have g0 : ∀ i, V7.frozen? ⟨w.heap.size, i, none⟩ = false := fun i => frozen_of_blk hp2.res0
              have g1 : ∀ i, V7.frozen? ⟨w.heap.size + 1, i, none⟩ = false := fun i => frozen_of_blk hp2.res1
              have o1 := hp2.o1
              have hbz : b ≠ w.heap.size := by omega
              have hbz1 : b ≠ w.heap.size + 1 := by omega
              have HGR : Hid _ := hp2.gr
              have hz9 : ((r20.e : Int) != 0) = false := by simp; omega
              have m0 := hp2.cell 0
              have m1 := hp2.cell 1
              have m2 := hp2.cell 2
              simp at m0 m1 m2
              obtain ⟨va, vc, rfl⟩ := own_shape hpa2.2.1
              obtain ⟨ca, cc, rfl⟩ := own_shape hco2
              go_wp2_with fail
              have HQ : Hid (parseR l N = (⟨fv, acc, cacc⟩, r20)) := by have := HP.out; rw [if_neg (by simp [hso])] at this; exact this
              have hk : ∀ (i : Nat) (u : Value) (X : World), PartsAt X (b + 2) (.slice va acc.length vc) acc vs ∧ X.ownsRow (b + 2) 92 6 (.slice ca cacc.length cc) cacc.length (chanRows cacc) → PartsAt (X.setCell ⟨w.heap.size, i, none⟩ u) (b + 2) (.slice va acc.length vc) acc vs ∧ (X.setCell ⟨w.heap.size, i, none⟩ u).ownsRow (b + 2) 92 6 (.slice ca cacc.length cc) cacc.length (chanRows cacc) := fun i u X hX => ⟨hX.1.kept (grown_set X _ i u) (by intro k hk; injection hk; omega), own_kept hX.2 (grown_set X _ i u) (by intro k hk; injection hk; omega)⟩
              have hk1 : ∀ (i : Nat) (u : Value) (X : World), PartsAt X (b + 2) (.slice va acc.length vc) acc vs ∧ X.ownsRow (b + 2) 92 6 (.slice ca cacc.length cc) cacc.length (chanRows cacc) → PartsAt (X.setCell ⟨w.heap.size + 1, i, none⟩ u) (b + 2) (.slice va acc.length vc) acc vs ∧ (X.setCell ⟨w.heap.size + 1, i, none⟩ u).ownsRow (b + 2) 92 6 (.slice ca cacc.length cc) cacc.length (chanRows cacc) := fun i u X hX => ⟨hX.1.kept (grown_set X _ i u) (by intro k hk; injection hk; omega), own_kept hX.2 (grown_set X _ i u) (by intro k hk; injection hk; omega)⟩
              have hall := hk1 1 (.int .i64 0) _ (hk1 0 (.int .i64 0) _ (hk 2 (.slice ca cacc.length cc) _ (hk 1 (.slice va acc.length vc) _ (hk 0 (.int .i64 fv) V7 ⟨hpa2, hco2⟩))))
              refine bodyPost_ret (v := .tuple #[.agg #[.int .i64 fv, .slice va acc.length vc, .slice ca cacc.length cc], .agg #[.int .i64 0, .int .i64 0], .int .i64 0]) (by simp [results, Tryz.results36, go_sem, z0, z1, z2, p0, p1]) rfl ⟨?_, N, by rw [HLL.out]; exact HTN.out, .inr ?_⟩
              · exact (((((HGR.out.setCell (Nat.le_refl _) _).setCell (Nat.le_refl _) _).setCell (Nat.le_refl _) _).setCell (Nat.le_succ _) _).setCell (Nat.le_succ _) _)
              · rw [HLL.out, HQ.out]
                refine ⟨he, _, vs, _, rfl, ⟨hall.1.1, own_mono hall.1.2.1 (by omega), fun i a c => own_mono (hall.1.2.2 i a c) (by omega)⟩, own_mono hall.2 (by omega)⟩
            · have hz2 : (((tk l r20.at').sort : Int) != 0) = true := by simp; omega
              go_wp2_with fail
              go_quiet (fail)
              have hp2 := hp1.step (hp1.rd.drewN nq) (grown_drewN V6 nq _)
              generalize V6.drewN nq = V7 at *
              clear c0 c1 c2 t0 hp1 hpa1 hco1
              go_wp2_with fail
              refine (fail_any V7 b g N cap l r20 1 hp2.rd hlen).mono ?_
              rintro e V8 ⟨rfl, hr, hg⟩
              have hp3 := hp2.step hr hg
              clear hr hg hp2
              have hfe : (failR l r20 1).e ≠ 0 := by
                unfold failR; rw [if_neg (by simp [he])]; simp only []; split
                · assumption
                · simp
              have hif : r20.e = 0 ∧ (tk l r20.at').sort ≠ 0 := ⟨he, hso⟩
              have HIF : Hid _ := hif
              clear hif
              generalize failR l r20 1 = rf at *
              have c2 := hp3.rd.c2
              have c3 := hp3.rd.c3
              have c4 := hp3.rd.c4
              have z0 : V8.cell? ⟨w.heap.size, 0, none⟩ = some (.int .i64 0) := by rw [cell_of_blk hp3.res0]; rfl
              have z1 : V8.cell? ⟨w.heap.size, 1, none⟩ = some (.slice none 0 0) := by rw [cell_of_blk hp3.res0]; rfl
              have z2 : V8.cell? ⟨w.heap.size, 2, none⟩ = some (.slice none 0 0) := by rw [cell_of_blk hp3.res0]; rfl
              have p0 : V8.cell? ⟨w.heap.size + 1, 0, none⟩ = some (.int .i64 0) := by rw [cell_of_blk hp3.res1]; rfl
              have p1 : V8.cell? ⟨w.heap.size + 1, 1, none⟩ = some (.int .i64 0) := by rw [cell_of_blk hp3.res1]; rfl
              have g0 : ∀ i, V8.frozen? ⟨w.heap.size, i, none⟩ = false := fun i => frozen_of_blk hp3.res0
              have g1 : ∀ i, V8.frozen? ⟨w.heap.size + 1, i, none⟩ = false := fun i => frozen_of_blk hp3.res1
              have o1 := hp3.o1
              have hbz : b ≠ w.heap.size := by omega
              have hbz1 : b ≠ w.heap.size + 1 := by omega
              have HGR : Hid _ := hp3.gr
              have hz9 : ((rf.e : Int) != 0) = true := by simp; omega
              go_wp2_with fail
              go_region
              go_wp2_with fail
              have HQ : Hid (parseR l N = (⟨fv, acc, cacc⟩, rf)) := by have := HP.out; rw [if_pos HIF.out] at this; exact this
              refine bodyPost_ret (v := .tuple #[.agg #[.int .i64 0, .slice none 0 0, .slice none 0 0], .agg #[.int .i64 rf.ln, .int .i64 rf.cl], .int .i64 rf.e]) (by simp [results, Tryz.results36, go_sem, z0, z1, z2, p0, p1]) rfl ⟨?_, N, by rw [HLL.out]; exact HTN.out, .inl ?_⟩
              · exact (((((HGR.out.setCell (Nat.le_refl _) _).setCell (Nat.le_refl _) _).setCell (Nat.le_refl _) _).setCell (Nat.le_succ _) _).setCell (Nat.le_succ _) _).drew
              · rw [HLL.out, HQ.out]; exact ⟨by omega, rfl⟩
          · have hz1 : ((r20.e : Int) == 0) = false := by simp; omega
            go_wp2_with fail
            go_quiet (fail)
            have hp2 := hp1.step (hp1.rd.drewN nq) (grown_drewN V6 nq _)
            generalize V6.drewN nq = V7 at *
            clear c0 c1 c2 t0 hp1 hpa1 hco1
            have c2 := hp2.rd.c2
            have c3 := hp2.rd.c3
            have c4 := hp2.rd.c4
            have z0 : V7.cell? ⟨w.heap.size, 0, none⟩ = some (.int .i64 0) := by rw [cell_of_blk hp2.res0]; rfl
            have z1 : V7.cell? ⟨w.heap.size, 1, none⟩ = some (.slice none 0 0) := by rw [cell_of_blk hp2.res0]; rfl
            have z2 : V7.cell? ⟨w.heap.size, 2, none⟩ = some (.slice none 0 0) := by rw [cell_of_blk hp2.res0]; rfl
            have p0 : V7.cell? ⟨w.heap.size + 1, 0, none⟩ = some (.int .i64 0) := by rw [cell_of_blk hp2.res1]; rfl
            have p1 : V7.cell? ⟨w.heap.size + 1, 1, none⟩ = some (.int .i64 0) := by rw [cell_of_blk hp2.res1]; rfl
            have g0 : ∀ i, V7.frozen? ⟨w.heap.size, i, none⟩ = false := fun i => frozen_of_blk hp2.res0
            have g1 : ∀ i, V7.frozen? ⟨w.heap.size + 1, i, none⟩ = false := fun i => frozen_of_blk hp2.res1
            have o1 := hp2.o1
            have hbz : b ≠ w.heap.size := by omega
            have hbz1 : b ≠ w.heap.size + 1 := by omega
            have HGR : Hid _ := hp2.gr
            have hz9 : ((r20.e : Int) != 0) = true := by simp; omega
            go_wp2_with fail
            go_region
            go_wp2_with fail
            have HQ : Hid (parseR l N = (⟨fv, acc, cacc⟩, r20)) := by have := HP.out; rw [if_neg (by simp [he])] at this; exact this
            refine bodyPost_ret (v := .tuple #[.agg #[.int .i64 0, .slice none 0 0, .slice none 0 0], .agg #[.int .i64 r20.ln, .int .i64 r20.cl], .int .i64 r20.e]) (by simp [results, Tryz.results36, go_sem, z0, z1, z2, p0, p1]) rfl ⟨?_, N, by rw [HLL.out]; exact HTN.out, .inl ?_⟩
            · exact (((((HGR.out.setCell (Nat.le_refl _) _).setCell (Nat.le_refl _) _).setCell (Nat.le_refl _) _).setCell (Nat.le_succ _) _).setCell (Nat.le_succ _) _).drew
            · rw [HLL.out, HQ.out]; exact ⟨by omega, rfl⟩
        · have hi3 : isR l r20 [99, 104, 97, 110, 110, 101, 108] = true := hi2
          have he20 := isR_e hi2
          have hgk : 1 ≤ gk := by unfold leftR at hf; rw [if_neg (by simp [he20])] at hf; have := hp1.rd.lt; omega
          have HX : Hid (fin2 = chansR l (acc.map Part.name) (gk - 1) (channelR l (acc.map Part.name) r20).2 (cacc ++ [(channelR l (acc.map Part.name) r20).1])) := by
            have := HK.out
            obtain ⟨m, rfl⟩ : ∃ m, gk = m + 1 := ⟨gk - 1, by omega⟩
            rw [chansR_on _ _ _ _ _ hi2] at this; exact this
          have HL : Hid (leftR N (channelR l (acc.map Part.name) r20).2 ≤ gk - 1) := by
            have h1 := left_lt (N := N) (r := r20) hp1.rd.lt he20 (channelR_le l (acc.map Part.name) r20 hi2)
            show _ ≤ _; omega
          clear HK hi2 hf
          have x1 := hp1.cell 1
          simp at x1
          have hvb : v.ownBlock ≠ some b := fun hk => by have := (hpa1.2.1.lt _ hk).1; omega
          have HVB : Hid _ := hvb
          clear hvb
          go_wp2_with fail
          refine (channel_any V6 b g N cap v l r20 (acc.map Part.name) hp1.rd hpa1.partS HVB.out (by simp; omega) hlen hn hN).mono ?_
          rintro e V7 ⟨rfl, hr, hg⟩
          have hp2 := hp1.step hr hg
          have hpa2 := hpa1.kept hg (by intro k hk; injection hk; omega)
          have hco2 := own_kept hco1 hg (by intro k hk; injection hk; omega)
          clear hr hg hp1 hpa1 hco1 x1
          generalize channelR l (acc.map Part.name) r20 = pr at *
          obtain ⟨⟨nm, sv, tv, kv, zv, dv⟩, r21⟩ := pr
          simp only [] at hp2
          have hM7 := lt_of_blk hp2.loc
          have x2 := hp2.cell 2
          simp at x2
          go_wp2_with (
            at_builtin; refine wpList_append_lies _ rfl _ _ _ rfl (b + 2) 92 j0 _ 6 56 Tryz.underlying32 hj0 hy0 hy1 hy2 rfl (by omega) cv cacc.length (chanRows cacc) rfl ((hco2.alloc _).alloc _) ⟨V7.heap.size + 1, 0, none⟩ 1 1 [.string ⟨nm.toArray⟩, .int .i64 sv, .int .i64 tv, .int .i64 kv, .int .i64 zv, .int .i64 dv] rfl rfl (World.news_of_block (cs := #[.string ⟨nm.toArray⟩, .int .i64 sv, .int .i64 tv, .int .i64 kv, .int .i64 zv, .int .i64 dv]) (t := 92) (fr := (0, 0)) (heap_new2 V7 _ _)) (by simp [Value.oneCell']) (by omega) (by unfold maxLen; omega) (by omega) (by simp; omega) (V7.heap.size + 2) (by simp) ?_; intro gg cc V9 hown3 hgrow hat9 hlt9; have q9 := ((hp2.aside (grown_alloc _ _ none) (by simp)).aside (grown_alloc _ _ none) (by simp)).aside hgrow (fun k hk => by have := (hco2.lt k hk).1; omega); have x9 := q9.cell 2; have g9 := q9.fz 2; simp at x9)
          have q10 : FW w _ b g N cap (b + 1) l r21 #[.int .i64 fv, v, .slice (some ⟨gg, 0, none⟩) (cacc.length + 1) cc] := q9.set 2 (.slice (some ⟨gg, 0, none⟩) (cacc.length + 1) cc)
          have hpa3 := hpa2.kept (grown_trans (grown_alloc V7 (Obj.cells #[.string ⟨nm.toArray⟩, .int .i64 sv, .int .i64 tv, .int .i64 kv, .int .i64 zv, .int .i64 dv] 92) none) (grown_alloc _ (Obj.cells #[.string ⟨nm.toArray⟩, .int .i64 sv, .int .i64 tv, .int .i64 kv, .int .i64 zv, .int .i64 dv] 92) none)) (by simp)
          have hco3 := (hco2.alloc (Obj.cells #[.string ⟨nm.toArray⟩, .int .i64 sv, .int .i64 tv, .int .i64 kv, .int .i64 zv, .int .i64 dv] 92)).alloc (Obj.cells #[.string ⟨nm.toArray⟩, .int .i64 sv, .int .i64 tv, .int .i64 kv, .int .i64 zv, .int .i64 dv] 92)
          have hpa4 := hpa3.apart hco3 (by decide) (by decide) hgrow
          have hpa5 := hpa4.kept (grown_set V9 (b + 1) 2 (.slice (some ⟨gg, 0, none⟩) (cacc.length + 1) cc)) (by intro k hk; injection hk; omega)
          have hco4 := own_kept hown3 (grown_set V9 (b + 1) 2 (.slice (some ⟨gg, 0, none⟩) (cacc.length + 1) cc)) (by intro k hk; injection hk; omega)
          go_roundg (gk - 1)
          case measure => omega
          case rel =>
            have e1 : Hid (fin2 = chansR l (acc.map Part.name) (gk - 1) r21 (cacc ++ [⟨nm, sv, tv, kv, zv, dv⟩])) := HX.out
            have e2 : leftR N r21 ≤ gk - 1 := HL.out
            exact ⟨cacc ++ [⟨nm, sv, tv, kv, zv, dv⟩], r21, _, e1, e2, by simp; omega, q10, hpa5, by simpa [chanRows_snoc, chanCells] using hco4⟩
    · have hi' : isR l r10 [112, 97, 114, 116, 105, 116, 105, 111, 110] = true := hi
      have he10 := isR_e hi
      have hgk : 1 ≤ gk := by unfold leftR at hf; rw [if_neg (by simp [he10])] at hf; have := hp1.rd.lt; omega
      have HX : Hid (fin = partsR l N (gk - 1) (partitionR l N r10).2 (acc ++ [(partitionR l N r10).1])) := by
        have := HK.out
        obtain ⟨m, rfl⟩ : ∃ m, gk = m + 1 := ⟨gk - 1, by omega⟩
        rw [partsR_on _ _ _ _ _ hi] at this; exact this
      have HL : Hid (leftR N (partitionR l N r10).2 ≤ gk - 1) := by
        have h1 := left_lt (N := N) (r := r10) hp1.rd.lt he10 (partitionR_le l N r10 hi)
        show _ ≤ _; omega
      clear HK hi hf
      go_wp2_with fail
      refine (partition_any V5 b g N cap l r10 hp1.rd hlen hn hN).mono ?_
      rintro e V6 ⟨u, rfl, hr, hg, hou⟩
      have hp2 := hp1.step hr hg
      have hpa2 := hpa1.kept hg (by intro k hk; injection hk; omega)
      have hM5 := lt_of_blk hp1.loc
      clear hr hg hp1 hpa1
      have hou2 := own_mono hou (show b + 2 ≤ V5.heap.size by omega)
      clear hou
      generalize partitionR l N r10 = pr at *
      obtain ⟨⟨nm, pv, dv, av, rgs⟩, r11⟩ := pr
      simp only [] at hp2 hou2
      obtain ⟨ua, uc, rfl⟩ := own_shape hou2
      have hM6 := lt_of_blk hp2.loc
      have x1 := hp2.cell 1
      simp at x1
      go_wp2_with (
        at_builtin; refine wpList_append_lies _ rfl _ _ _ rfl (b + 2) 42 i0 _ 5 64 Tryz.underlying31 hi0 hz0 hz1 hz2 rfl (by omega) v acc.length (partRows acc vs) rfl ((hpa2.2.1.alloc _).alloc _) ⟨V6.heap.size + 1, 0, none⟩ 1 1 [.string ⟨nm.toArray⟩, .int .i64 pv, .int .i64 dv, .int .i64 av, .slice ua rgs.length uc] rfl rfl (World.news_of_block (cs := #[.string ⟨nm.toArray⟩, .int .i64 pv, .int .i64 dv, .int .i64 av, .slice ua rgs.length uc]) (t := 42) (fr := (0, 0)) (heap_new2 V6 _ _)) (by simp [Value.oneCell']) (by omega) (by unfold maxLen; omega) (by omega) (by simp; omega) (V6.heap.size + 2) (by simp) ?_; intro gg cc V9 hown3 hgrow hat9 hlt9; have q9 := ((hp2.aside (grown_alloc _ _ none) (by simp)).aside (grown_alloc _ _ none) (by simp)).aside hgrow (fun k hk => by have := (hpa2.2.1.lt k hk).1; omega); have x9 := q9.cell 1; have g9 := q9.fz 1; simp at x9)
      have q10 : FW w _ b g N cap (b + 1) l r11 #[.int .i64 fv, .slice (some ⟨gg, 0, none⟩) (acc.length + 1) cc, .slice none 0 0] := q9.set 1 (.slice (some ⟨gg, 0, none⟩) (acc.length + 1) cc)
      have hpa3 := hpa2.kept (grown_trans (grown_alloc V6 (Obj.cells #[.string ⟨nm.toArray⟩, .int .i64 pv, .int .i64 dv, .int .i64 av, .slice ua rgs.length uc] 42) none) (grown_alloc _ (Obj.cells #[.string ⟨nm.toArray⟩, .int .i64 pv, .int .i64 dv, .int .i64 av, .slice ua rgs.length uc] 42) none)) (by simp)
      have hou3 := (hou2.alloc (Obj.cells #[.string ⟨nm.toArray⟩, .int .i64 pv, .int .i64 dv, .int .i64 av, .slice ua rgs.length uc] 42)).alloc (Obj.cells #[.string ⟨nm.toArray⟩, .int .i64 pv, .int .i64 dv, .int .i64 av, .slice ua rgs.length uc] 42)
      have hpa4 := PartsAt.snoc (p := ⟨nm, pv, dv, av, rgs⟩) hpa3 hou3 hgrow hown3
      have hpa5 := hpa4.kept (grown_set V9 (b + 1) 1 (.slice (some ⟨gg, 0, none⟩) (acc.length + 1) cc)) (by intro k hk; injection hk; omega)
      go_roundg (gk - 1)
      case measure => omega
      case rel =>
        have e1 : Hid (fin = partsR l N (gk - 1) r11 (acc ++ [⟨nm, pv, dv, av, rgs⟩])) := HX.out
        have e2 : leftR N r11 ≤ gk - 1 := HL.out
        exact ⟨acc ++ [⟨nm, pv, dv, av, rgs⟩], _, r11, _, e1, e2, by simp; omega, q10, hpa5⟩
end Go.Proofs.YteioennfpkoagaaGreatDoor
