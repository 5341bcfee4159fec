import Derived.Test.YteioennfpkoagaaGreatDoorB30
import Derived.Test.YteioennfpkoagaaGreatDoorRows
namespace Go.Proofs.YteioennfpkoagaaGreatDoor.C
open Go.ChangeShapes Go.WideShapes Go.RowKit

section
variable {H : Type} {enc : TypeId × Value → H} {P : Program} {w : World} {base : Nat} {spare : Nat → Bool} {held : Bool}
theorem weightsAll_at {e : TypeId} : ∀ {ds : List (DataW H)}, (DataW.weightsAll P e ds).all (· ≤ reachBytes) = true → ∀ d ∈ ds, (d.weights P e).all (· ≤ reachBytes) = true
  | [], _, d, hd => by cases hd
  | x :: r, h, d, hd => by
    simp only [DataW.weightsAll, List.all_append, Bool.and_eq_true] at h
    rcases List.mem_cons.1 hd with rfl | hd
    · exact h.1
    · exact weightsAll_at h.2 d hd
theorem weightsEach_at : ∀ {ts : List TypeId} {ds : List (DataW H)}, (DataW.weightsEach P ts ds).all (· ≤ reachBytes) = true → ∀ (i : Nat) (t : TypeId) (d : DataW H), ts[i]? = some t → ds[i]? = some d → (d.weights P t).all (· ≤ reachBytes) = true
  | [], _, _, i, t, d, ht, _ => by simp at ht
  | _ :: _, [], _, i, t, d, _, hd => by simp at hd
  | a :: ts, b :: ds, h, i, t, d, ht, hd => by
    simp only [DataW.weightsEach, List.all_append, Bool.and_eq_true] at h
    cases i with
    | zero =>
      simp only [List.getElem?_cons_zero, Option.some.injEq] at ht hd
      subst ht hd
      exact h.1
    | succ i =>
      simp only [List.getElem?_cons_succ] at ht hd
      exact weightsEach_at h.2 i t d ht hd
theorem open_rowsW {t e : TypeId} {m fuel : Nat} {cs : List Value} {x : DataW H × List MemPlace} (ht : P.underlying t = some (.slice e)) (hc : P.cellsOf e = m) (hm : 0 < m) (h : DataW.trod enc P w base spare held fuel t cs = some x) (hw : (x.1.weights P t).all (· ≤ reachBytes) = true) :
    ∃ va n cap, cs = [.slice va n cap] ∧ n * P.bytesOf e ≤ 140737488351232 ∧ ∀ i, i < n → ∃ b off row y k, va = some ⟨b, off, none⟩ ∧ row.length = m ∧ (∀ j, j < m → w.cell? ⟨b, off + i * m + j, none⟩ = row[j]?) ∧ DataW.trod enc P w base spare held k e row = some y ∧ (y.1.weights P e).all (· ≤ reachBytes) = true := by
  rcases DataW.trod_slice ht h with ⟨rfl, rfl⟩ | ⟨a, len, cap, elems, rest, n, _, rfl, rfl, hb, hl, hmx, hlen, hel, hsp, hns⟩
  · exact ⟨none, 0, 0, rfl, by simp, fun i hi => absurd hi (by omega)⟩
  · simp only [DataW.weights, ht, List.all_cons, List.all_append, Bool.and_eq_true, decide_eq_true_eq, List.length_map] at hw
    have hw1 : len * P.bytesOf e ≤ 140737488351232 := by
      have h1 := hw.1
      have h2 : len * P.bytesOf e ≤ (elems.length + rest.length) * P.bytesOf e := Nat.mul_le_mul_right _ (by omega)
      unfold reachBytes at h1
      omega
    refine ⟨some a, len, cap, rfl, hw1, fun i hi => ?_⟩
    have he := hel i hi
    have hil : i < elems.length := by omega
    rw [List.getElem?_eq_getElem hil, Option.bind_eq_some_iff] at he
    obtain ⟨row, hrow, hy⟩ := he
    rw [hc] at hrow
    obtain ⟨_, hrl, hcell⟩ := World.cells?_some hrow
    have hspot : a.spot = none := by
      have h0 := hcell 0 hm
      rw [List.getElem?_eq_getElem (by omega)] at h0
      have e1 : ((a.add (i * m)).add 0) = a.add (i * m) := by simp [Addr.add]
      rw [e1] at h0
      by_cases h1 : i * m = 0
      · rw [h1] at h0
        simp only [Addr.add, if_true] at h0
        unfold World.cell? at h0
        split at h0
        · split at h0
          · cases h0
          · rename_i hh; cases hs : a.spot
            · rfl
            · rw [hs] at hh; simp at hh
        · cases h0
      · -- the list's first row is read too
        have he0 := hel 0 (by omega)
        rw [List.getElem?_eq_getElem (show 0 < elems.length by omega), Option.bind_eq_some_iff] at he0
        obtain ⟨row0, hrow0, _⟩ := he0
        rw [hc] at hrow0
        obtain ⟨_, hrl0, hcell0⟩ := World.cells?_some hrow0
        have h0 := hcell0 0 hm
        rw [List.getElem?_eq_getElem (by omega)] at h0
        simp only [Nat.zero_mul, Addr.add, if_true] at h0
        unfold World.cell? at h0
        split at h0
        · split at h0
          · cases h0
          · rename_i hh; cases hs : a.spot
            · rfl
            · rw [hs] at hh; simp at hh
        · cases h0
    obtain ⟨b, off, sp⟩ := a
    simp only at hspot
    subst hspot
    refine ⟨b, off, row, elems[i], n, rfl, hrl, fun j hj => ?_, hy, ?_⟩
    · have := hcell j hj
      have e1 : (((⟨b, off, none⟩ : Addr).add (i * m)).add j) = ⟨b, off + i * m + j, none⟩ := by
        unfold Addr.add
        split <;> split <;> simp_all
      rw [e1] at this
      exact this
    · exact weightsAll_at hw.2.1 _ (List.mem_map.2 ⟨elems[i], List.getElem_mem _, rfl⟩)
end
theorem bReg : Tryz.prog.bytesOf 90 = 24 := by kernel_rfl
theorem bPart : Tryz.prog.bytesOf 42 = 64 := by kernel_rfl
theorem bChan : Tryz.prog.bytesOf 92 = 56 := by kernel_rfl
section
variable {H : Type} {enc : TypeId × Value → H} {w : World} {base : Nat} {spare : Nat → Bool} {held : Bool}
theorem open_regionsW {fuel : Nat} {cs : List Value} {x : DataW H × List MemPlace} (h : DataW.trod enc Tryz.prog w base spare held fuel 40 cs = some x) (hw : (x.1.weights Tryz.prog 40).all (· ≤ reachBytes) = true) :
    ∃ v rs, cs = [v] ∧ RegsV w v rs ∧ rs.length ≤ 5864062014635 := by
  obtain ⟨va, n, cap, rfl, hbk, hrow⟩ := open_rowsW Tryz.underlying40 cReg (by omega) h hw
  rw [bReg] at hbk
  obtain ⟨rs, hl, hr⟩ := list_of (p := fun i (r : RegD) => ∃ b off, va = some ⟨b, off, none⟩ ∧ w.cell? ⟨b, off + i * 3, none⟩ = some (.int .i64 r.page) ∧ w.cell? ⟨b, off + i * 3 + 1, none⟩ = some (.int .i64 r.pages) ∧ w.cell? ⟨b, off + i * 3 + 2, none⟩ = some (.int .i64 r.rights)) n (fun i hi => by
    obtain ⟨b, off, row, y, k, e1, e2, e3, e4, _⟩ := hrow i hi
    obtain ⟨r, rfl⟩ := open_region e4
    exact ⟨r, b, off, e1, e3 0 (by omega), e3 1 (by omega), e3 2 (by omega)⟩)
  subst hl
  exact ⟨_, rs, rfl, ⟨va, cap, rfl, hr⟩, by omega⟩
theorem open_partW {fuel : Nat} {cs : List Value} {x : DataW H × List MemPlace} (h : DataW.trod enc Tryz.prog w base spare held fuel 42 cs = some x) (hw : (x.1.weights Tryz.prog 42).all (· ≤ reachBytes) = true) :
    ∃ (r : PartD) (rv : Value), cs = [.string r.name, .int .i64 r.period, .int .i64 r.duration, .int .i64 r.action, rv] ∧ RegsV w rv r.regs ∧ r.regs.length ≤ 5864062014635 := by
  obtain ⟨xs, n, _, rfl, hl, hx, hf⟩ := DataW.trod_struct Tryz.underlying42 h
  simp only [DataW.weights, Tryz.underlying42] at hw
  rw [cPart] at hl
  obtain ⟨a, b, c, d, e, rfl⟩ := lst5 hl
  have hx5 : xs.length = 5 := hx
  obtain ⟨nm, rfl⟩ := fld_str hf 0 0 rfl (by omega) rfl
  obtain ⟨p, rfl⟩ := fld_int hf 1 1 rfl (by omega) rfl
  obtain ⟨q, rfl⟩ := fld_int hf 2 2 rfl (by omega) rfl
  obtain ⟨s, rfl⟩ := fld_int hf 3 3 rfl (by omega) rfl
  have h4 := fld hf 4 4 40 rfl (by omega)
  obtain ⟨rv, rs, hcs, hv, hbk⟩ := open_regionsW h4 (weightsEach_at hw 4 40 xs[4].1 (by rfl) (by rw [List.getElem?_map, List.getElem?_eq_getElem (by omega)]; rfl))
  simp only [cRegs] at hcs
  have : e = rv := by simpa using hcs
  subst this
  exact ⟨⟨nm, p, q, s, rs⟩, e, rfl, hv, hbk⟩
theorem open_partsW {fuel : Nat} {cs : List Value} {x : DataW H × List MemPlace} (h : DataW.trod enc Tryz.prog w base spare held fuel 31 cs = some x) (hw : (x.1.weights Tryz.prog 31).all (· ≤ reachBytes) = true) :
    ∃ v ps, cs = [v] ∧ PartsV w v ps ∧ ps.length ≤ 2199023255552 ∧ ∀ i (hi : i < ps.length), ps[i].regs.length ≤ 5864062014635 := by
  obtain ⟨va, n, cap, rfl, hbk, hrow⟩ := open_rowsW Tryz.underlying31 cPart (by omega) h hw
  rw [bPart] at hbk
  obtain ⟨ps, hl, hr⟩ := list_of (p := fun i (r : PartD) => (∃ b off rv, va = some ⟨b, off, none⟩ ∧ w.cell? ⟨b, off + i * 5, none⟩ = some (.string r.name) ∧ w.cell? ⟨b, off + i * 5 + 1, none⟩ = some (.int .i64 r.period) ∧ w.cell? ⟨b, off + i * 5 + 2, none⟩ = some (.int .i64 r.duration) ∧ w.cell? ⟨b, off + i * 5 + 3, none⟩ = some (.int .i64 r.action) ∧ w.cell? ⟨b, off + i * 5 + 4, none⟩ = some rv ∧ RegsV w rv r.regs) ∧ r.regs.length ≤ 5864062014635) n (fun i hi => by
    obtain ⟨b, off, row, y, k, e1, e2, e3, e4, e5⟩ := hrow i hi
    obtain ⟨r, rv, rfl, hv, hb⟩ := open_partW e4 e5
    exact ⟨r, ⟨b, off, rv, e1, e3 0 (by omega), e3 1 (by omega), e3 2 (by omega), e3 3 (by omega), e3 4 (by omega), hv⟩, hb⟩)
  subst hl
  exact ⟨_, ps, rfl, ⟨va, cap, rfl, fun i hi => (hr i hi).1⟩, by omega, fun i hi => (hr i hi).2⟩
theorem open_chansW {fuel : Nat} {cs : List Value} {x : DataW H × List MemPlace} (h : DataW.trod enc Tryz.prog w base spare held fuel 32 cs = some x) (hw : (x.1.weights Tryz.prog 32).all (· ≤ reachBytes) = true) :
    ∃ v rs, cs = [v] ∧ ChansV w v rs ∧ rs.length ≤ 2513169434844 := by
  obtain ⟨va, n, cap, rfl, hbk, hrow⟩ := open_rowsW Tryz.underlying32 cChan (by omega) h hw
  rw [bChan] at hbk
  obtain ⟨rs, hl, hr⟩ := list_of (p := fun i (r : ChanD) => ∃ b off, va = some ⟨b, off, none⟩ ∧ w.cell? ⟨b, off + i * 6, none⟩ = some (.string r.name) ∧ w.cell? ⟨b, off + i * 6 + 1, none⟩ = some (.int .i64 r.source) ∧ w.cell? ⟨b, off + i * 6 + 2, none⟩ = some (.int .i64 r.target) ∧ w.cell? ⟨b, off + i * 6 + 3, none⟩ = some (.int .i64 r.kind) ∧ w.cell? ⟨b, off + i * 6 + 4, none⟩ = some (.int .i64 r.size) ∧ w.cell? ⟨b, off + i * 6 + 5, none⟩ = some (.int .i64 r.depth)) n (fun i hi => by
    obtain ⟨b, off, row, y, k, e1, e2, e3, e4, _⟩ := hrow i hi
    obtain ⟨r, rfl⟩ := open_chan e4
    exact ⟨r, b, off, e1, e3 0 (by omega), e3 1 (by omega), e3 2 (by omega), e3 3 (by omega), e3 4 (by omega), e3 5 (by omega)⟩)
  subst hl
  exact ⟨_, rs, rfl, ⟨va, cap, rfl, hr⟩, by omega⟩
theorem open_manW {fuel : Nat} {cs : List Value} {x : DataW H × List MemPlace} (h : DataW.trod enc Tryz.prog w base spare held fuel 34 cs = some x) (hw : (x.1.weights Tryz.prog 34).all (· ≤ reachBytes) = true) :
    ∃ f pv cv ps ks, cs = [.int .i64 f, pv, cv] ∧ PartsV w pv ps ∧ ChansV w cv ks ∧ ps.length ≤ 2199023255552 ∧ ks.length ≤ 2513169434844 ∧ ∀ i (hi : i < ps.length), ps[i].regs.length ≤ 5864062014635 := by
  obtain ⟨xs, n, _, rfl, hl, hx, hf⟩ := DataW.trod_struct Tryz.underlying34 h
  simp only [DataW.weights, Tryz.underlying34] at hw
  rw [cMan] at hl
  obtain ⟨a, b, c, rfl⟩ := lst3 hl
  have hx3 : xs.length = 3 := hx
  obtain ⟨f, rfl⟩ := fld_int hf 0 0 rfl (by omega) rfl
  have h1 := fld hf 1 1 31 rfl (by omega)
  have h2 := fld hf 2 2 32 rfl (by omega)
  obtain ⟨pv, ps, hp1, hp2, hp3, hp4⟩ := open_partsW h1 (weightsEach_at hw 1 31 xs[1].1 (by rfl) (by rw [List.getElem?_map, List.getElem?_eq_getElem (by omega)]; rfl))
  obtain ⟨cv, ks, hc1, hc2, hc3⟩ := open_chansW h2 (weightsEach_at hw 2 32 xs[2].1 (by rfl) (by rw [List.getElem?_map, List.getElem?_eq_getElem (by omega)]; rfl))
  simp only [cParts] at hp1
  simp only [cChans] at hc1
  have e1 : b = pv := by simpa using hp1
  have e2 : c = cv := by simpa using hc1
  subst e1; subst e2
  exact ⟨f, b, c, ps, ks, rfl, hp2, hc2, hp3, hc3, hp4⟩
end
end Go.Proofs.YteioennfpkoagaaGreatDoor.C
