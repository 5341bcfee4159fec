import Derived.Test.YteioennfpkoagabGreatDoorH26
import Derived.Test.YteioennfpkoagabGreatDoorH18
import Derived.Test.YteioennfpkoagabGreatDoorH28
import Derived.Test.YteioennfpkoagabGreatDoorH27
namespace Go.Proofs.YteioennfpkoagabGreatDoor.C
open Go.RowKit K
attribute [local go_sem ↓] Go.wp_at_zero Go.wp_at_succ

section
variable {w w' : World} {L : Lay} {pl : List Int} {ps : List PartD} {cs : List ChanD} {S : KS}
theorem bareC_at {c : Nat} {y : ChanD} (h : (cs.map bareC)[c]? = some y) : ∃ z, cs[c]? = some z ∧ y = bareC z := by
  rw [List.getElem?_map] at h
  cases hz : cs[c]? with
  | none => rw [hz] at h; cases h
  | some z => rw [hz] at h; cases h; exact ⟨z, rfl, rfl⟩
theorem ReactV.bare {i : Nat} {x : PartD} (h : ReactV w L (cs.map bareC) i (bareP x)) : ReactV w L cs i x := by
  rcases h with h | ⟨h1, b, h2, h3, h4⟩ | ⟨h1, b, c, iv, n, g, h2, h3, h4, h5, h6, h7, h8, h9, h10⟩
  · exact .inl h
  · exact .inr (.inl ⟨h1, b, h2, h3, h4⟩)
  · refine .inr (.inr ⟨h1, b, c, iv, n, g, h2, h3, h4, h5, h6, h7, fun k hk => ?_, fun d y hy ht => h9 d (bareC y) (by rw [List.getElem?_map, hy]; rfl) ht, h10⟩)
    obtain ⟨y, hy, ht⟩ := h8 k hk
    obtain ⟨z, hz, rfl⟩ := bareC_at hy
    exact ⟨z, hz, ht⟩
theorem KVi.bare (h : KVi w L pl (ps.map bareP) (cs.map bareC) S) : KVi w L pl ps cs S := by
  have hx : ∀ {i : Nat} {x : PartD}, ps[i]? = some x → (ps.map bareP)[i]? = some (bareP x) := fun h => by rw [List.getElem?_map, h]; rfl
  have hy : ∀ {i : Nat} {x : ChanD}, cs[i]? = some x → (cs.map bareC)[i]? = some (bareC x) := fun h => by rw [List.getElem?_map, h]; rfl
  refine ⟨⟨h.s.low, h.s.kro, h.s.kerB, h.s.plan, ?_, ?_, fun i x e => h.s.part i _ (hx e), fun i x e => h.s.regs i (bareP x) (hx e), fun i x e => h.s.reg i (bareP x) (hx e), fun i x e => h.s.mem i (bareP x) (hx e), fun i x e => (h.s.react i _ (hx e)).bare⟩, fun c y e => h.chan c (bareC y) (hy e)⟩
  · have := h.s.parts; rw [List.length_map] at this; exact this
  · have := h.s.chans; rw [List.length_map] at this; exact this
end
set_option maxHeartbeats 4000000 in
theorem kboot_any (w : World) (s : ByteArray) (hs : s.size ≤ 9223372036854775807) (htb : TB w) :
    Calls Tryz.prog 4 #[.string s] w fun e w' => Below w.heap.size w w' ∧ ((accF s = false ∧ e = .returned (.tuple #[.pointer none, .int .i64 18])) ∨
    (accF s = true ∧ ∃ a o, e = .returned (.tuple #[.pointer (some a), .int .i64 0]) ∧ (∀ b, o b → w.heap.size ≤ b) ∧ ∀ D, checkF D = 0 → s = ba (imgF D) → KVd w' (.pointer (some a)) D bootK o)) := by
  have HLD : Hid _ := kload_any w s hs htb
  clear htb
  go_enter Tryz.func4, Tryz.ntmps4
  go_wp2_with fail
  refine Calls.mono HLD.out ?_
  rintro e w1 ⟨hb1, hor⟩
  have HB1 : Hid (Below w.heap.size w w1) := hb1
  clear hb1 HLD
  rcases hor with ⟨hac, rfl⟩ | ⟨hac, kb, qv, ptv, chv, cbs, rs, rfl, hld⟩
  · have HAC : Hid (accF s = false) := hac
    clear hac
    go_wp2_with fail
    go_ret2
    exact ⟨HB1.out, .inl ⟨HAC.out, rfl⟩⟩
  · have HAC : Hid (accF s = true) := hac
    have hok := acc_ok hac
    have HKV : Hid _ := hld.kvi (by have := hok.pn; omega) (by have := hok.cn; omega) (fun x hx => (hok.prt x hx).2.2) (fun x hx r hr => regG_of ((hok.prt x hx).1.1 r hr)) hok.chn
    clear hac hok hld
    unfold ptrV
    go_wp2_with fail
    go_ret2
    refine ⟨HB1.out, .inr ⟨HAC.out, ⟨kb, 0, none⟩, (layL kb qv ptv chv (r2 s.data.toList).1 cbs rs).o, rfl, HKV.out.2, fun D hz he => ?_⟩⟩
    have hkv := HKV.out.1
    subst he
    have hd : (ba (imgF D)).data.toList = imgF D := by simp [ba]
    rw [hd] at hkv ⊢
    obtain ⟨_, h1, h2, h3⟩ := img_read hz
    refine ⟨hz, _, rfl, fun b => Iff.rfl, ?_⟩
    rw [h1, h2, h3] at hkv
    have := hkv.bare
    rw [h2]
    exact this
theorem ptrV_ok {w : World} {v : Value} {D : ManD} {S : KS} {o : Nat → Prop} (h : KVd w v D S o) : ∃ a, v = .pointer (some a) := by
  obtain ⟨_, L, rfl, _⟩ := h
  exact ⟨_, rfl⟩
theorem o_eq {L : Lay} {o : Nat → Prop} (h : ∀ b, o b ↔ L.rl b ≠ none) : o = L.o := funext fun b => propext (h b)
theorem Aft.fx {w w' : World} {D : ManD} {S : KS} {L : Lay} (hz : checkF D = 0) (h : KVi w' L (planF D) D.parts D.chans S) (hf : Fx L w w') : Aft KVd (ptrV L.kb) D S L.o w w' :=
  ⟨⟨L.o, ⟨hz, L, rfl, fun _ => Iff.rfl, h⟩, newO.refl _ _⟩, hf.frm⟩
theorem Aft.nx {w w' : World} {D : ManD} {S : KS} {L L' : Lay} (hz : checkF D = 0) (h : KVi w' L' (planF D) D.parts D.chans S) (hf : Nx L L' w w') : Aft KVd (ptrV L.kb) D S L.o w w' :=
  ⟨⟨L'.o, ⟨hz, L', by rw [hf.kb], fun _ => Iff.rfl, h⟩, hf.new⟩, hf.frm⟩
def kerI : KerI where
  KV := KVd
  low := KVd.low
  ptr := ptrV_ok
  chk h := h.1
  keep := KVd.keep
  tick h hs := by
    obtain ⟨hz, L, rfl, ho, hi⟩ := h
    rw [o_eq ho]
    exact (ktick_any hz hi hs).mono fun e w' ⟨h1, h2, h3⟩ => ⟨h1, .fx hz h2 h3⟩
  running h hs := by
    obtain ⟨hz, L, rfl, ho, hi⟩ := h
    rw [o_eq ho]
    exact (krunning_any hz hi).mono fun e w' ⟨h1, h2⟩ => ⟨h1, .fx hz (hi.below h2) (.all h2)⟩
  read h hs hp ha := by
    obtain ⟨hz, L, rfl, ho, hi⟩ := h
    rw [o_eq ho]
    exact (kread_any hz hi hs _ _ hp ha).mono fun e w' ⟨h1, h2, h3⟩ => ⟨h1, .fx hz h2 h3⟩
  write h hs hp ha hb := by
    obtain ⟨hz, L, rfl, ho, hi⟩ := h
    rw [o_eq ho]
    exact (kwrite_any hz hi hs _ _ _ hp ha hb).mono fun e w' ⟨h1, h2, h3⟩ => ⟨h1, .fx hz h2 h3⟩
  send h hs hp hc ht := by
    obtain ⟨hz, L, rfl, ho, hi⟩ := h
    rw [o_eq ho]
    exact (ksend_any hz hi _ _ _ hp hc ht).mono fun e w' ⟨h1, L', h2, h3⟩ => ⟨h1, .nx hz h2 h3⟩
  recv h hs hp hc := by
    obtain ⟨hz, L, rfl, ho, hi⟩ := h
    rw [o_eq ho]
    exact (krecv_any hz hi _ _ hp hc).mono fun e w' ⟨h1, h2, h3⟩ => ⟨h1, .fx hz h2 h3⟩
  raise h hs hp := by
    obtain ⟨hz, L, rfl, ho, hi⟩ := h
    rw [o_eq ho]
    exact (kraise_any hz hi hs _ hp).mono fun e w' ⟨h1, h2, h3⟩ => ⟨h1, .fx hz h2 h3⟩
  state h hs hp := by
    obtain ⟨hz, L, rfl, ho, hi⟩ := h
    rw [o_eq ho]
    exact (kstate_any hz hi _ hp).mono fun e w' ⟨h1, h2⟩ => ⟨h1, .fx hz (hi.below h2) (.all h2)⟩
  acc := accF
  accImg := accF_img
  accSyn l _ h := accF_syn l h
  accCut := accF_cut
  boot htb hs := kboot_any _ _ hs htb
end Go.Proofs.YteioennfpkoagabGreatDoor.C
