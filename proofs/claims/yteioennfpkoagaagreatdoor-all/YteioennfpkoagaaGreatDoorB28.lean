import Derived.Test.YteioennfpkoagaaGreatDoorB25
import Derived.Test.YteioennfpkoagaaGreatDoorB23
import Derived.Test.YteioennfpkoagaaGreatDoorB27
import Derived.Test.YteioennfpkoagaaGreatDoorB26
import Derived.Test.YteioennfpkoagaaGreatDoorB18
import Derived.Test.YteioennfpkoagaaGreatDoorB15
namespace Go.Proofs.YteioennfpkoagaaGreatDoor.C
open Go.RowKit K
attribute [local go_sem ↓] Go.wp_at_zero Go.wp_at_succ

section
variable {w w' : World} {L : Lay} {pl : List Int} {ps : List PartD} {cs : List ChanD} {S : KS}
theorem bareC_at {c : Nat} {y : ChanD} (h : (cs.map bareC)[c]? = some y) : ∃ z, cs[c]? = some z ∧ y = bareC z := by
  rw [List.getElem?_map] at h
  cases hz : cs[c]? with
  | none => rw [hz] at h; cases h
  | some z => rw [hz] at h; cases h; exact ⟨z, rfl, rfl⟩
theorem ReactV.bare {i : Nat} {x : PartD} (h : ReactV w L (cs.map bareC) i (bareP x)) : ReactV w L cs i x := by
  rcases h with h | ⟨h1, b, h2, h3, h4⟩ | ⟨h1, b, c, iv, n, g, h2, h3, h4, h5, h6, h7, h8, h9, h10⟩
  · exact .inl h
  · exact .inr (.inl ⟨h1, b, h2, h3, h4⟩)
  · refine .inr (.inr ⟨h1, b, c, iv, n, g, h2, h3, h4, h5, h6, h7, fun k hk => ?_, fun d y hy ht => h9 d (bareC y) (by rw [List.getElem?_map, hy]; rfl) ht, h10⟩)
    obtain ⟨y, hy, ht⟩ := h8 k hk
    obtain ⟨z, hz, rfl⟩ := bareC_at hy
    exact ⟨z, hz, ht⟩
theorem KVi.bare (h : KVi w L pl (ps.map bareP) (cs.map bareC) S) : KVi w L pl ps cs S := by
  have hx : ∀ {i : Nat} {x : PartD}, ps[i]? = some x → (ps.map bareP)[i]? = some (bareP x) := fun h => by rw [List.getElem?_map, h]; rfl
  have hy : ∀ {i : Nat} {x : ChanD}, cs[i]? = some x → (cs.map bareC)[i]? = some (bareC x) := fun h => by rw [List.getElem?_map, h]; rfl
  refine ⟨⟨h.s.low, h.s.kro, h.s.kerB, h.s.plan, ?_, ?_, fun i x e => h.s.part i _ (hx e), fun i x e => h.s.regs i (bareP x) (hx e), fun i x e => h.s.reg i (bareP x) (hx e), fun i x e => h.s.mem i (bareP x) (hx e), fun i x e => (h.s.react i _ (hx e)).bare⟩, fun c y e => h.chan c (bareC y) (hy e)⟩
  · have := h.s.parts; rw [List.length_map] at this; exact this
  · have := h.s.chans; rw [List.length_map] at this; exact this
end
set_option maxHeartbeats 4000000 in
theorem kboot_any (w : World) (s : ByteArray) (hs : s.size ≤ 9223372036854775807) (htb : TB w) :
    Calls Tryz.prog 24 #[.string s] w fun e w' => Below w.heap.size w w' ∧ ((accF s = false ∧ e = .returned (.tuple #[.pointer none, .int .i64 18])) ∨
    (accF s = true ∧ ∃ a o, e = .returned (.tuple #[.pointer (some a), .int .i64 0]) ∧ (∀ b, o b → w.heap.size ≤ b) ∧ ∀ D, checkF D = 0 → s = ba (imgF D) → KVd w' (.pointer (some a)) D bootK o)) := by
  have HLD : Hid _ := kload_any w s hs htb
  clear htb
  go_enter Tryz.func24, Tryz.ntmps24
  go_wp2_with fail
  refine Calls.mono HLD.out ?_
  rintro e w1 ⟨hb1, hor⟩
  have HB1 : Hid (Below w.heap.size w w1) := hb1
  clear hb1 HLD
  rcases hor with ⟨hac, rfl⟩ | ⟨hac, kb, qv, ptv, chv, cbs, rs, rfl, hld⟩
  · have HAC : Hid (accF s = false) := hac
    clear hac
    go_wp2_with fail
    go_ret2
    exact ⟨HB1.out, .inl ⟨HAC.out, rfl⟩⟩
  · have HAC : Hid (accF s = true) := hac
    have hok := acc_ok hac
    have HKV : Hid _ := hld.kvi (by have := hok.pn; omega) (by have := hok.cn; omega) (fun x hx => (hok.prt x hx).2.2) (fun x hx r hr => regG_of ((hok.prt x hx).1.1 r hr)) hok.chn
    clear hac hok hld
    unfold ptrV
    go_wp2_with fail
    go_ret2
    refine ⟨HB1.out, .inr ⟨HAC.out, ⟨kb, 0, none⟩, (layL kb qv ptv chv (r2 s.data.toList).1 cbs rs).o, rfl, HKV.out.2, fun D hz he => ?_⟩⟩
    have hkv := HKV.out.1
    subst he
    have hd : (ba (imgF D)).data.toList = imgF D := by simp [ba]
    rw [hd] at hkv ⊢
    obtain ⟨_, h1, h2, h3⟩ := img_read hz
    refine ⟨hz, _, rfl, fun b => Iff.rfl, ?_⟩
    rw [h1, h2, h3] at hkv
    have := hkv.bare
    rw [h2]
    exact this
theorem ptrV_ok {w : World} {v : Value} {D : ManD} {S : KS} {o : Nat → Prop} (h : KVd w v D S o) : ∃ a, v = .pointer (some a) := by
  obtain ⟨_, L, rfl, _⟩ := h
  exact ⟨_, rfl⟩
theorem o_eq {L : Lay} {o : Nat → Prop} (h : ∀ b, o b ↔ L.rl b ≠ none) : o = L.o := funext fun b => propext (h b)
theorem Aft.fx {w w' : World} {D : ManD} {S : KS} {L : Lay} (hz : checkF D = 0) (h : KVi w' L (planF D) D.parts D.chans S) (hf : Fx L w w') : Aft KVd (ptrV L.kb) D S L.o w w' :=
  ⟨⟨L.o, ⟨hz, L, rfl, fun _ => Iff.rfl, h⟩, newO.refl _ _⟩, hf.frm⟩
theorem Aft.nx {w w' : World} {D : ManD} {S : KS} {L L' : Lay} (hz : checkF D = 0) (h : KVi w' L' (planF D) D.parts D.chans S) (hf : Nx L L' w w') : Aft KVd (ptrV L.kb) D S L.o w w' :=
  ⟨⟨L'.o, ⟨hz, L', by rw [hf.kb], fun _ => Iff.rfl, h⟩, hf.new⟩, hf.frm⟩
def kerI : KerI where
  KV := KVd
  low := KVd.low
  ptr := ptrV_ok
  chk h := h.1
  keep := KVd.keep
  tick h hs := by
    obtain ⟨hz, L, rfl, ho, hi⟩ := h
    rw [o_eq ho]
    exact (ktick_any hz hi hs).mono fun e w' ⟨h1, h2, h3⟩ => ⟨h1, .fx hz h2 h3⟩
  running h hs := by
    obtain ⟨hz, L, rfl, ho, hi⟩ := h
    rw [o_eq ho]
    exact (krunning_any hz hi).mono fun e w' ⟨h1, h2⟩ => ⟨h1, .fx hz (hi.below h2) (.all h2)⟩
  read h hs hp ha := by
    obtain ⟨hz, L, rfl, ho, hi⟩ := h
    rw [o_eq ho]
    exact (kread_any hz hi hs _ _ hp ha).mono fun e w' ⟨h1, h2, h3⟩ => ⟨h1, .fx hz h2 h3⟩
  write h hs hp ha hb := by
    obtain ⟨hz, L, rfl, ho, hi⟩ := h
    rw [o_eq ho]
    exact (kwrite_any hz hi hs _ _ _ hp ha hb).mono fun e w' ⟨h1, h2, h3⟩ => ⟨h1, .fx hz h2 h3⟩
  send h hs hp hc ht := by
    obtain ⟨hz, L, rfl, ho, hi⟩ := h
    rw [o_eq ho]
    exact (ksend_any hz hi _ _ _ hp hc ht).mono fun e w' ⟨h1, L', h2, h3⟩ => ⟨h1, .nx hz h2 h3⟩
  recv h hs hp hc := by
    obtain ⟨hz, L, rfl, ho, hi⟩ := h
    rw [o_eq ho]
    exact (krecv_any hz hi _ _ hp hc).mono fun e w' ⟨h1, h2, h3⟩ => ⟨h1, .fx hz h2 h3⟩
  raise h hs hp := by
    obtain ⟨hz, L, rfl, ho, hi⟩ := h
    rw [o_eq ho]
    exact (kraise_any hz hi hs _ hp).mono fun e w' ⟨h1, h2, h3⟩ => ⟨h1, .fx hz h2 h3⟩
  state h hs hp := by
    obtain ⟨hz, L, rfl, ho, hi⟩ := h
    rw [o_eq ho]
    exact (kstate_any hz hi _ hp).mono fun e w' ⟨h1, h2⟩ => ⟨h1, .fx hz (hi.below h2) (.all h2)⟩
  acc := accF
  accImg := accF_img
  accSyn l _ h := accF_syn l h
  accCut := accF_cut
  boot htb hs := kboot_any _ _ hs htb
end Go.Proofs.YteioennfpkoagaaGreatDoor.C
namespace Go.Proofs.YteioennfpkoagaaGreatDoor.C
open Go.RowKit K
attribute [local go_sem ↓] Go.wp_at_zero Go.wp_at_succ

/- a kernel of a manifest, as 'begin' leaves it -/
structure Begun (I : KerI) (w : World) (D : ManD) (a : Addr) (qv : Value) (W1 w' : World) : Prop where
  kat : KAt I W1 a D bootK w'
  pre : Below w.heap.size w W1
  plan : PlanV W1 qv (planF D)
theorem run_boot (D : ManD) : runF D bootK = whoF D bootK := by
  unfold runF
  rw [if_neg]
  rintro ⟨_, h⟩
  cases h
theorem who_boot (D : ManD) : whoF D bootK = tickF D.parts 0 := by
  unfold whoF bootK
  simp
theorem planF_len {D : ManD} : (planF D).length = D.frame.toNat := (planN_len D.parts D.frame.toNat).1
theorem planF_at {D : ManD} {t : Nat} (h : t < D.frame.toNat) (h2 : t < (planF D).length) : (planF D)[t] = tickF D.parts t := by
  have h3 : (planF D).getD t 0 = tickF D.parts t := plan_at D.parts D.frame.toNat t h
  rw [← h3, List.getD, List.getElem?_eq_getElem h2, Option.getD_some]
theorem parts_len4 (ps : List PartD) (h : ∀ x ∈ ps, x.regs.length ≤ 4) : (ps.flatMap encPart).length ≤ 14 * ps.length := by
  induction ps with
  | nil => simp
  | cons c l ih =>
    have h1 := ih fun x hx => h x (by simp [hx])
    have h2 := h c (by simp)
    rw [List.flatMap_cons, List.length_append, List.length_cons]
    simp only [encPart, List.length_cons, encRegs_len]
    omega
theorem imgF_len {D : ManD} (hz : checkF D = 0) : (imgF D).length ≤ 8 + D.frame.toNat + 14 * D.parts.length + 5 * D.chans.length ∧ 8 ≤ (imgF D).length := by
  have hco := check_ok hz
  have h1 := parts_len4 D.parts (fun x hx => by
    obtain ⟨i, hi, rfl⟩ := List.getElem_of_mem hx
    exact (hco.2.2.2.2.1 i hi).1)
  have h2 := encChans_len D.chans D.chans.length
  rw [List.take_length] at h2
  have h3 : (planF D).length = D.frame.toNat := planF_len
  unfold imgF imgL
  rw [sealL_len]
  unfold bodyL
  simp only [encPlan, encParts, encChans, List.length_cons, List.length_append, List.length_map]
  omega
theorem ba_len (l : List UInt8) : (ba l).size = l.length := by simp [ba, ByteArray.size]
theorem write_on {D : ManD} {S : KS} {p a b : Int} (ht : turnF D S p = 0) (hr : rightsF (regsAt D p.toNat) a = 2) : writeF D S p a b = (0, setMem S p.toNat a (b % 256)) := by
  unfold writeF
  rw [if_neg (fun h => h ht), if_neg (fun h => h hr)]
theorem read_on {D : ManD} {S : KS} {p a : Int} (ht : turnF D S p = 0) (hr : rightsF (regsAt D p.toNat) a = 2) : readF D S p a = (S.mem p.toNat a, 0, S) := by
  unfold readF
  rw [if_neg (fun h => h ht), if_neg (by rw [hr]; decide)]
theorem turn_mem {D : ManD} {S : KS} {p : Int} {k : Nat} {a b : Int} : turnF D (setMem S k a b) p = turnF D S p := rfl
theorem regsAt_of {D : ManD} {p : Nat} {x : PartD} (h : D.parts[p]? = some x) : regsAt D p = x.regs := by
  unfold regsAt
  rw [h]; rfl
set_option maxRecDepth 100000 in
set_option maxHeartbeats 8000000 in
theorem kbegin_any (I : KerI) (w : World) (htb : TB w) (n : Nat) (ps : List PartD) (cs : List ChanD) (pv cv : Value) (hp : PartsV w pv ps) (hpc : PartsC w pv ps.length) (hc : ChansV w cv cs) (hcc : capV cv) (hz : checkF ⟨n, ps, cs⟩ = 0) (hne : ps ≠ [])
    (hfst : ∀ x ∈ ps, ∀ r, x.regs.head? = some r → r.rights = 2) :
    Calls Tryz.prog 25 #[.agg #[.int .i64 n, pv, cv]] w fun e w' => ∃ a qv W1, e = .returned (.tuple #[.pointer (some a), qv]) ∧ Begun I w ⟨n, ps, cs⟩ a qv W1 w' := by
  have HTB : Hid (TB w) := htb
  clear htb
  have hco := check_ok hz
  obtain ⟨hT, hS⟩ := check_fit hz
  simp only [] at hT hS
  have hn1 : 1 ≤ n := by have := hco.1; simp only [] at this; omega
  have hn2 : n ≤ 240 := by have := hco.2.1; simp only [] at this; omega
  have hpl : ps.length ≤ 8 := hco.2.2.1
  have hcl : cs.length ≤ 8 := hco.2.2.2.1
  have hrl : ∀ i (hi : i < ps.length), ps[i].regs.length ≤ 4 := fun i hi => (hco.2.2.2.2.1 i hi).1
  have HP : Hid _ := hp
  have HPC : Hid _ := hpc
  have HC : Hid _ := hc
  have HCC : Hid _ := hcc
  have HZ : Hid _ := hz
  have HF : Hid _ := hfst
  have HCO : Hid _ := hco
  have HRL : Hid _ := hrl
  have HT : Hid _ := hT
  have htz := tick_zero hT hne
  have hti := (tick_in ps 0).2
  obtain ⟨p, hpe⟩ : ∃ p : Nat, tickF ps 0 = p := ⟨(tickF ps 0).toNat, by omega⟩
  have hpl2 : p < ps.length := by omega
  have HPE : Hid _ := hpe
  clear hpc hcc hz hfst hco hrl hT hS htz hti hpe hne
  obtain ⟨va, cap, rfl, hx⟩ := hp
  clear hx
  obtain ⟨ca, ck, rfl, hx⟩ := hc
  clear hx
  go_enter Tryz.func25, Tryz.ntmps25
  go_wp2_with fail
  have b0 := newB w (.cells #[.int .i64 n, .slice va ps.length cap, .slice ca cs.length ck] 34)
  have h0 := heap_new w (.cells #[.int .i64 n, .slice va ps.length cap, .slice ca cs.length ck] 34)
  have HB0 : Hid _ := b0
  have HM0 : Hid _ := h0
  clear b0 h0
  generalize w.alloc (.cells #[.int .i64 n, .slice va ps.length cap, .slice ca cs.length ck] 34) = W0 at *
  refine Calls.mono (planC_true n ps cs _ _ W0 (PartsV.below HP.out HB0.out) (PartsC.below HP.out HPC.out HB0.out) (ChansV.below HC.out HB0.out) HCC.out (by omega) (by omega) (fun k hk => by have := HRL.out k hk; omega)) ?_
  rintro e w1 hor
  obtain ⟨_, hb1, v, rfl, hown⟩ : checkF ⟨n, ps, cs⟩ = 0 ∧ Below W0.heap.size W0 w1 ∧ ∃ v, e = .returned (.tuple #[v, .int .i64 0]) ∧ w1.ownsRow W0.heap.size 3 1 v (planF ⟨n, ps, cs⟩).length (intsC (planF ⟨n, ps, cs⟩)) := by
    rcases hor with ⟨h, _⟩ | h
    · exact absurd HZ.out h
    · exact h
  have hpv := plan_see hown
  have epl : (planF ⟨n, ps, cs⟩).length = n := by rw [planF_len]; simp
  have HPV : Hid (PlanV w1 v (planF ⟨n, ps, cs⟩)) := hpv
  obtain ⟨qa, qc, hv, hqc⟩ := hpv
  rw [epl] at hv
  subst hv
  obtain ⟨qb, qo, rfl, hq0⟩ := hqc 0 (by omega)
  rw [planF_at (D := ⟨n, ps, cs⟩) (t := 0) (by simp; omega), HPE.out, Nat.add_zero] at hq0
  have HB1 : Hid (Below w.heap.size w w1) := HB0.out.trans (hb1.mono HB0.out.size)
  have HM1 : Hid (w1.heap[w.heap.size]? = some (.cells #[.int .i64 n, .slice va ps.length cap, .slice ca cs.length ck] 34 (0, 0))) := keepN HM0.out hb1
  have HQ0 : Hid _ := hq0
  have HEP : Hid _ := epl
  have y0 : w1.cell? ⟨w.heap.size, 0, none⟩ = some (.int .i64 n) := by rw [cell_of_blk HM1.out]; rfl
  have y1 : w1.cell? ⟨w.heap.size, 1, none⟩ = some (.slice va ps.length cap) := by rw [cell_of_blk HM1.out]; rfl
  have y2 : w1.cell? ⟨w.heap.size, 2, none⟩ = some (.slice ca cs.length ck) := by rw [cell_of_blk HM1.out]; rfl
  clear hor hown hqc hq0 hb1 epl
  go_wp2_with fail
  refine Calls.mono (compile_any n ps cs _ _ w1 (PartsV.below HP.out HB1.out) (PartsC.below HP.out HPC.out HB1.out) (ChansV.below HC.out HB1.out) HCC.out (by omega) (by omega) (fun k hk => by have := HRL.out k hk; omega)) ?_
  rintro e w2 hor
  obtain ⟨_, hb2, rfl⟩ : checkF ⟨n, ps, cs⟩ = 0 ∧ Below w1.heap.size w1 w2 ∧ e = .returned (.tuple #[.string (ba (imgF ⟨n, ps, cs⟩)), .int .i64 0]) := by
    rcases hor with ⟨h, _⟩ | h
    · exact absurd HZ.out h
    · exact h
  have HB2 : Hid (Below w.heap.size w w2) := HB1.out.trans (hb2.mono HB1.out.size)
  have HM2 : Hid (w2.heap[w.heap.size]? = some (.cells #[.int .i64 n, .slice va ps.length cap, .slice ca cs.length ck] 34 (0, 0))) := keepN HM1.out hb2
  have HPV2 : Hid (PlanV w2 (.slice (some ⟨qb, qo, none⟩) n qc) (planF ⟨n, ps, cs⟩)) := PlanV.below HPV.out hb2
  have HQ2 : Hid _ := (hb2.cell (p := ⟨qb, qo, none⟩) (World.block_lt_of_cell? w1 _ HQ0.out)).trans HQ0.out
  clear hor hb2 y0 y1 y2
  go_wp2_with fail
  refine Calls.mono (I.boot (s := ba (imgF ⟨n, ps, cs⟩)) (w := w2) (HTB.out.below HB2.out) ?_) ?_
  · have := (imgF_len HZ.out).1
    simp only [Int.toNat_natCast] at this
    rw [ba_len]; omega
  rintro e w3 ⟨hb3, hor⟩
  obtain ⟨_, a, o, rfl, hlo, hkv⟩ : I.acc (ba (imgF ⟨n, ps, cs⟩)) = true ∧ ∃ a o, e = .returned (.tuple #[.pointer (some a), .int .i64 0]) ∧ (∀ b, o b → w2.heap.size ≤ b) ∧ ∀ D, checkF D = 0 → ba (imgF ⟨n, ps, cs⟩) = ba (imgF D) → I.KV w3 (.pointer (some a)) D bootK o := by
    rcases hor with ⟨h, _⟩ | h
    · rw [I.accImg _ HZ.out] at h; cases h
    · exact h
  have HK3 : Hid (KAt I w2 a ⟨n, ps, cs⟩ bootK w3) := ⟨o, hkv _ HZ.out rfl, hlo, hb3⟩
  have HM3 : Hid (w3.heap[w.heap.size]? = some (.cells #[.int .i64 n, .slice va ps.length cap, .slice ca cs.length ck] 34 (0, 0))) := keepN HM2.out hb3
  have q3 : w3.cell? ⟨qb, qo, none⟩ = some (.int .i64 p) := (hb3.cell (p := ⟨qb, qo, none⟩) (World.block_lt_of_cell? w2 _ HQ2.out)).trans HQ2.out
  have y0 : w3.cell? ⟨w.heap.size, 0, none⟩ = some (.int .i64 n) := by rw [cell_of_blk HM3.out]; rfl
  clear hor hkv hlo hb3
  go_wp2_with fail
  refine Calls.mono (KAt.running HK3.out smallBoot) ?_
  rintro e w4 ⟨rfl, hk4⟩
  have hw : whoF ⟨n, ps, cs⟩ bootK = (p : Int) := by rw [who_boot]; exact HPE.out
  rw [run_boot, hw]
  have HK4 : Hid (KAt I w2 a ⟨n, ps, cs⟩ bootK w4) := hk4
  have HM4 : Hid (w4.heap[w.heap.size]? = some (.cells #[.int .i64 n, .slice va ps.length cap, .slice ca cs.length ck] 34 (0, 0))) := keepN HM2.out hk4.bel
  have HWH : Hid (whoF ⟨n, ps, cs⟩ bootK = (p : Int)) := hw
  have y1 : w4.cell? ⟨w.heap.size, 1, none⟩ = some (.slice va ps.length cap) := by rw [cell_of_blk HM4.out]; rfl
  clear q3 y0 hk4 hw
  have hPV4 := PartsV.below (PartsV.below HP.out HB2.out) HK4.out.bel
  obtain ⟨va', cap', eva, hc⟩ := hPV4
  simp only [Value.slice.injEq, true_and] at eva
  obtain ⟨rfl, rfl⟩ := eva
  obtain ⟨b, off, rv, rfl, d0, d1, d2, d3, d4, hrv⟩ := hc p hpl2
  clear hc d0 d1 d2 d3
  have hg1 : ¬ (p : Int) < 0 := by omega
  have hg2 : ¬ (ps.length : Int) ≤ (p : Int) := by omega
  have hfx := HF.out ps[p] (List.getElem_mem _)
  have hpt := (HCO.out.2.2.2.2.1 p hpl2).2
  obtain ⟨x, hx⟩ : ∃ x, ps[p] = x := ⟨_, rfl⟩
  have HXE : Hid (ps[p] = x) := hx
  rw [hx] at hrv hfx hpt
  clear hx
  obtain ⟨ra, rc, rfl, hrc⟩ := hrv
  rcases hrs : x.regs with _ | ⟨r, rs⟩
  · have hl0 : (x.regs.length : Int) = 0 := by rw [hrs]; rfl
    have hl1 : ¬ (0 : Int) < (x.regs.length : Int) := by omega
    clear hrs hl0
    go_wp2_with fail
    go_ret2
    exact ⟨a, _, w2, rfl, HK4.out, HB2.out, HPV2.out⟩
  · have hl1 : (0 : Int) < (x.regs.length : Int) := by rw [hrs]; simp
    obtain ⟨rb, ro, rfl, f0, f1, f2⟩ := hrc 0 (by omega)
    have e0 : x.regs[0]'(by omega) = r := by simp [hrs]
    rw [e0] at f0 f1 f2
    have hr2 : r.rights = 2 := hfx r (by rw [hrs]; rfl)
    have hrok := (partErr_ok hpt).2.2.2.2.2.2.1 r (by rw [hrs]; simp)
    unfold regB at hrok
    simp only [decide_eq_true_eq] at hrok
    obtain ⟨g0, g1, g2, g3, _⟩ := hrok
    obtain ⟨rp, rn, rr⟩ := r
    simp only [] at f0 f1 f2 hr2 g0 g1 g2 g3
    have hgx : (⟨n, ps, cs⟩ : ManD).parts[p]? = some x := by
      show ps[p]? = some x
      rw [List.getElem?_eq_getElem hpl2, HXE.out]
    have hra : regsAt ⟨n, ps, cs⟩ (p : Int).toNat = x.regs := by rw [Int.toNat_natCast]; exact regsAt_of hgx
    have HRT : Hid (rightsF (regsAt ⟨n, ps, cs⟩ (p : Int).toNat) (64 * rp) = 2) := by
      show _ = _
      rw [hra, hrs, ← hr2]
      exact rights_first (r := ⟨rp, rn, rr⟩) g2
    have HTN : Hid (turnF ⟨n, ps, cs⟩ bootK p = 0) := turn_on hpl2 HWH.out rfl
    have hwp : IntKind.i64.wrap (64 * rp) = 64 * rp := wrap_small _ (by omega) (by omega)
    rw [Nat.zero_mul, Nat.add_zero] at f0
    clear hrc hfx hpt hgx hra hrs e0 f1 f2 hr2
    go_wp2_with fail
    refine Calls.mono (KAt.write HK4.out smallBoot (p := (p : Int)) (x := 64 * rp) (b := 77) (by unfold inR; omega) (by unfold inR; omega) (by unfold inR; omega)) ?_
    rw [write_on HTN.out HRT.out]
    rintro e w5 ⟨rfl, hk5⟩
    have HK5 : Hid (KAt I w2 a ⟨n, ps, cs⟩ (setMem bootK (p : Int).toNat (64 * rp) (77 % 256)) w5) := hk5
    have hs5 : SmallK bigK (setMem bootK (p : Int).toNat (64 * rp) (77 % 256)) := smallBoot.setMem _ _ _
    clear hk5
    go_wp2_with fail
    refine Calls.mono (KAt.read HK5.out hs5 (p := (p : Int)) (x := 64 * rp) (by unfold inR; omega) (by unfold inR; omega)) ?_
    rw [read_on (by rw [turn_mem]; exact HTN.out) HRT.out, setMem_mem]
    rintro e w6 ⟨rfl, hk6⟩
    have HK6 : Hid (KAt I w2 a ⟨n, ps, cs⟩ (setMem bootK (p : Int).toNat (64 * rp) (77 % 256)) w6) := hk6
    clear hk6
    go_wp2_with fail
    refine Calls.mono (KAt.write HK6.out hs5 (p := (p : Int)) (x := 64 * rp) (b := 0) (by unfold inR; omega) (by unfold inR; omega) (by unfold inR; omega)) ?_
    rw [write_on (by rw [turn_mem]; exact HTN.out) HRT.out, show (0 : Int) % 256 = 0 by decide, setMem_boot]
    rintro e w7 ⟨rfl, hk7⟩
    have HK7 : Hid (KAt I w2 a ⟨n, ps, cs⟩ bootK w7) := hk7
    clear hk7
    go_wp2_with fail
    go_ret2
    exact ⟨a, _, w2, rfl, HK7.out, HB2.out, HPV2.out⟩
end Go.Proofs.YteioennfpkoagaaGreatDoor.C
