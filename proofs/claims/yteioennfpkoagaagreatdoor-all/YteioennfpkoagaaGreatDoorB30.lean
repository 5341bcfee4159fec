import Derived.Test.YteioennfpkoagaaGreatDoorB02
import Derived.SliceStrings
import Derived.ChangeSame
import Derived.Carry
import Derived.ProofKit
import Derived.OpenShut
namespace Go.Proofs.YteioennfpkoagaaGreatDoor.C
open Go.ChangeShapes Go.WideShapes Go.RowKit

theorem lst3 {α : Type} {cs : List α} (h : cs.length = 3) : ∃ a b c, cs = [a, b, c] := by
  match cs, h with
  | [a, b, c], _ => exact ⟨a, b, c, rfl⟩
theorem lst5 {α : Type} {cs : List α} (h : cs.length = 5) : ∃ a b c d e, cs = [a, b, c, d, e] := by
  match cs, h with
  | [a, b, c, d, e], _ => exact ⟨a, b, c, d, e, rfl⟩
theorem lst6 {α : Type} {cs : List α} (h : cs.length = 6) : ∃ a b c d e f, cs = [a, b, c, d, e, f] := by
  match cs, h with
  | [a, b, c, d, e, f], _ => exact ⟨a, b, c, d, e, f, rfl⟩
theorem bulk_one {H : Type} (d : DataW H) : 1 ≤ Rows.uptoBulk d := by
  cases d with
  | lit l => cases l <;> simp [Rows.uptoBulk]
  | nil => simp [Rows.uptoBulk]
  | ptr d => simp [Rows.uptoBulk]
  | slice elems spare => simp [Rows.uptoBulk]
  | agg parts => simp [Rows.uptoBulk]
  | iface t d => simp [Rows.uptoBulk]
  | map entries => simp [Rows.uptoBulk]
  | held h => simp [Rows.uptoBulk]
theorem bulk_len {H : Type} (l : List (DataW H)) : l.length ≤ Rows.uptoBulkAll l := by
  induction l with
  | nil => simp
  | cons x r ih => have := bulk_one x; simp only [Rows.uptoBulkAll, List.length_cons]; omega
theorem bulk_part {H : Type} {d : DataW H} {l : List (DataW H)} (h : d ∈ l) : Rows.uptoBulk d ≤ Rows.uptoBulkAll l := by
  induction l with
  | nil => cases h
  | cons x r ih =>
    simp only [Rows.uptoBulkAll]
    rcases List.mem_cons.1 h with e | e
    · subst e; omega
    · have := ih e; omega
theorem list_of {α : Type} {p : Nat → α → Prop} : ∀ (n : Nat), (∀ i, i < n → ∃ r, p i r) → ∃ rs : List α, rs.length = n ∧ ∀ i (h : i < rs.length), p i rs[i]
  | 0, _ => ⟨[], rfl, fun i h => absurd h (by simp)⟩
  | n + 1, h => by
    obtain ⟨rs, hl, hr⟩ := list_of n (fun i hi => h i (by omega))
    obtain ⟨r, hp⟩ := h n (by omega)
    refine ⟨rs ++ [r], by simp [hl], fun i hi => ?_⟩
    rcases Nat.lt_or_ge i rs.length with h' | h'
    · rw [List.getElem_append_left h']; exact hr i h'
    · have : i = n := by simp at hi; omega
      subst this
      rw [List.getElem_append_right (by omega)]
      simp [hl]; exact hp

section
variable {H : Type} {enc : TypeId × Value → H} {P : Program} {w : World} {base : Nat} {spare : Nat → Bool} {held : Bool}

/- a list's rows, as the reading has them -/
theorem open_rows {t e : TypeId} {m fuel : Nat} {cs : List Value} {x : DataW H × List MemPlace} (ht : P.underlying t = some (.slice e)) (hc : P.cellsOf e = m) (hm : 0 < m) (h : DataW.trod enc P w base spare held fuel t cs = some x) :
    ∃ va n cap, cs = [.slice va n cap] ∧ n + 1 ≤ Rows.uptoBulk x.1 ∧ ∀ i, i < n → ∃ b off row y k, va = some ⟨b, off, none⟩ ∧ row.length = m ∧ (∀ j, j < m → w.cell? ⟨b, off + i * m + j, none⟩ = row[j]?) ∧ DataW.trod enc P w base spare held k e row = some y ∧ Rows.uptoBulk y.1 ≤ Rows.uptoBulk x.1 := by
  rcases DataW.trod_slice ht h with ⟨rfl, rfl⟩ | ⟨a, len, cap, elems, rest, n, _, rfl, rfl, hb, hl, hmx, hlen, hel, hsp, hns⟩
  · exact ⟨none, 0, 0, rfl, by simp [Rows.uptoBulk], fun i hi => absurd hi (by omega)⟩
  · have hbl := bulk_len (elems.map (·.1))
    refine ⟨some a, len, cap, rfl, by simp only [Rows.uptoBulk]; simp at hbl; omega, fun i hi => ?_⟩
    have he := hel i hi
    have hil : i < elems.length := by omega
    rw [List.getElem?_eq_getElem hil, Option.bind_eq_some_iff] at he
    obtain ⟨row, hrow, hy⟩ := he
    rw [hc] at hrow
    obtain ⟨_, hrl, hcell⟩ := World.cells?_some hrow
    have hspot : a.spot = none := by
      have h0 := hcell 0 hm
      rw [List.getElem?_eq_getElem (by omega)] at h0
      have e1 : ((a.add (i * m)).add 0) = a.add (i * m) := by simp [Addr.add]
      rw [e1] at h0
      by_cases h1 : i * m = 0
      · rw [h1] at h0
        simp only [Addr.add, if_true] at h0
        unfold World.cell? at h0
        split at h0
        · split at h0
          · cases h0
          · rename_i hh; cases hs : a.spot
            · rfl
            · rw [hs] at hh; simp at hh
        · cases h0
      · -- the list's first row is read too
        have he0 := hel 0 (by omega)
        rw [List.getElem?_eq_getElem (show 0 < elems.length by omega), Option.bind_eq_some_iff] at he0
        obtain ⟨row0, hrow0, _⟩ := he0
        rw [hc] at hrow0
        obtain ⟨_, hrl0, hcell0⟩ := World.cells?_some hrow0
        have h0 := hcell0 0 hm
        rw [List.getElem?_eq_getElem (by omega)] at h0
        simp only [Nat.zero_mul, Addr.add, if_true] at h0
        unfold World.cell? at h0
        split at h0
        · split at h0
          · cases h0
          · rename_i hh; cases hs : a.spot
            · rfl
            · rw [hs] at hh; simp at hh
        · cases h0
    obtain ⟨b, off, sp⟩ := a
    simp only at hspot
    subst hspot
    refine ⟨b, off, row, elems[i], n, rfl, hrl, fun j hj => ?_, hy, ?_⟩
    · have := hcell j hj
      have e1 : (((⟨b, off, none⟩ : Addr).add (i * m)).add j) = ⟨b, off + i * m + j, none⟩ := by
        unfold Addr.add
        split <;> split <;> simp_all
      rw [e1] at this
      exact this
    · have := bulk_part (d := elems[i].1) (l := elems.map (·.1)) (List.mem_map.2 ⟨elems[i], List.getElem_mem _, rfl⟩)
      simp only [Rows.uptoBulk]; omega
end
theorem cInt : Tryz.prog.cellsOf 3 = 1 := by kernel_rfl
theorem cStr : Tryz.prog.cellsOf 9 = 1 := by kernel_rfl
theorem cReg : Tryz.prog.cellsOf 90 = 3 := by kernel_rfl
theorem cPart : Tryz.prog.cellsOf 42 = 5 := by kernel_rfl
theorem cChan : Tryz.prog.cellsOf 92 = 6 := by kernel_rfl
theorem cMan : Tryz.prog.cellsOf 34 = 3 := by kernel_rfl
theorem cRegs : Tryz.prog.cellsOf 40 = 1 := by kernel_rfl
theorem cParts : Tryz.prog.cellsOf 31 = 1 := by kernel_rfl
theorem cChans : Tryz.prog.cellsOf 32 = 1 := by kernel_rfl

section
variable {H : Type} {enc : TypeId × Value → H} {w : World} {base : Nat} {spare : Nat → Bool} {held : Bool}
theorem fld {n : Nat} {cs : List Value} {xs : List (DataW H × List MemPlace)} {fs : Array Field} (hf : ∀ (i : Nat) (f : Field), fs[i]? = some f → DataW.trod enc Tryz.prog w base spare held n f.type ((cs.drop f.offset).take (Tryz.prog.cellsOf f.type)) = xs[i]?)
    (i o : Nat) (T : TypeId) (hi : (fs[i]?).map (fun f => (f.type, f.offset)) = some (T, o)) (hx : i < xs.length) : DataW.trod enc Tryz.prog w base spare held n T ((cs.drop o).take (Tryz.prog.cellsOf T)) = some xs[i] := by
  obtain ⟨f, h1, h2⟩ := Option.map_eq_some_iff.1 hi
  have := hf i f h1
  simp only [Prod.mk.injEq] at h2
  rw [h2.1, h2.2, List.getElem?_eq_getElem hx] at this
  exact this
theorem fld_int {n : Nat} {cs : List Value} {xs : List (DataW H × List MemPlace)} {fs : Array Field} (hf : ∀ (i : Nat) (f : Field), fs[i]? = some f → DataW.trod enc Tryz.prog w base spare held n f.type ((cs.drop f.offset).take (Tryz.prog.cellsOf f.type)) = xs[i]?)
    (i o : Nat) (hi : (fs[i]?).map (fun f => (f.type, f.offset)) = some (3, o)) (hx : i < xs.length) {v : Value} (hv : (cs.drop o).take 1 = [v]) : ∃ n, v = .int .i64 n := by
  have h := fld hf i o 3 hi hx
  rw [cInt, hv] at h
  obtain ⟨n, hc, _, _⟩ := DataW.trod_int Tryz.underlying3 h
  exact ⟨n, by simpa using hc⟩
theorem fld_str {n : Nat} {cs : List Value} {xs : List (DataW H × List MemPlace)} {fs : Array Field} (hf : ∀ (i : Nat) (f : Field), fs[i]? = some f → DataW.trod enc Tryz.prog w base spare held n f.type ((cs.drop f.offset).take (Tryz.prog.cellsOf f.type)) = xs[i]?)
    (i o : Nat) (hi : (fs[i]?).map (fun f => (f.type, f.offset)) = some (9, o)) (hx : i < xs.length) {v : Value} (hv : (cs.drop o).take 1 = [v]) : ∃ s, v = .string s := by
  have h := fld hf i o 9 hi hx
  rw [cStr, hv] at h
  obtain ⟨s, hc, _, _⟩ := DataW.trod_string Tryz.underlying9 h
  exact ⟨s, by simpa using hc⟩
theorem open_region {fuel : Nat} {cs : List Value} {x : DataW H × List MemPlace} (h : DataW.trod enc Tryz.prog w base spare held fuel 90 cs = some x) :
    ∃ r : RegD, cs = [.int .i64 r.page, .int .i64 r.pages, .int .i64 r.rights] := by
  obtain ⟨xs, n, _, _, hl, hx, hf⟩ := DataW.trod_struct Tryz.underlying90 h
  rw [cReg] at hl
  obtain ⟨a, b, c, rfl⟩ := lst3 hl
  have hx3 : xs.length = 3 := hx
  obtain ⟨p, rfl⟩ := fld_int hf 0 0 rfl (by omega) rfl
  obtain ⟨q, rfl⟩ := fld_int hf 1 1 rfl (by omega) rfl
  obtain ⟨s, rfl⟩ := fld_int hf 2 2 rfl (by omega) rfl
  exact ⟨⟨p, q, s⟩, rfl⟩
theorem open_regions {fuel : Nat} {cs : List Value} {x : DataW H × List MemPlace} (h : DataW.trod enc Tryz.prog w base spare held fuel 40 cs = some x) :
    ∃ v rs, cs = [v] ∧ RegsV w v rs ∧ rs.length + 1 ≤ Rows.uptoBulk x.1 := by
  obtain ⟨va, n, cap, rfl, hbk, hrow⟩ := open_rows Tryz.underlying40 cReg (by omega) h
  obtain ⟨rs, hl, hr⟩ := list_of (p := fun i (r : RegD) => ∃ b off, va = some ⟨b, off, none⟩ ∧ w.cell? ⟨b, off + i * 3, none⟩ = some (.int .i64 r.page) ∧ w.cell? ⟨b, off + i * 3 + 1, none⟩ = some (.int .i64 r.pages) ∧ w.cell? ⟨b, off + i * 3 + 2, none⟩ = some (.int .i64 r.rights)) n (fun i hi => by
    obtain ⟨b, off, row, y, k, e1, e2, e3, e4, _⟩ := hrow i hi
    obtain ⟨r, rfl⟩ := open_region e4
    exact ⟨r, b, off, e1, e3 0 (by omega), e3 1 (by omega), e3 2 (by omega)⟩)
  subst hl
  exact ⟨_, rs, rfl, ⟨va, cap, rfl, hr⟩, hbk⟩
theorem open_part {fuel : Nat} {cs : List Value} {x : DataW H × List MemPlace} (h : DataW.trod enc Tryz.prog w base spare held fuel 42 cs = some x) :
    ∃ (r : PartD) (rv : Value), cs = [.string r.name, .int .i64 r.period, .int .i64 r.duration, .int .i64 r.action, rv] ∧ RegsV w rv r.regs ∧ r.regs.length + 1 ≤ Rows.uptoBulk x.1 := by
  obtain ⟨xs, n, _, rfl, hl, hx, hf⟩ := DataW.trod_struct Tryz.underlying42 h
  rw [cPart] at hl
  obtain ⟨a, b, c, d, e, rfl⟩ := lst5 hl
  have hx5 : xs.length = 5 := hx
  obtain ⟨nm, rfl⟩ := fld_str hf 0 0 rfl (by omega) rfl
  obtain ⟨p, rfl⟩ := fld_int hf 1 1 rfl (by omega) rfl
  obtain ⟨q, rfl⟩ := fld_int hf 2 2 rfl (by omega) rfl
  obtain ⟨s, rfl⟩ := fld_int hf 3 3 rfl (by omega) rfl
  have h4 := fld hf 4 4 40 rfl (by omega)
  obtain ⟨rv, rs, hcs, hv, hbk⟩ := open_regions h4
  simp only [cRegs] at hcs
  have : e = rv := by simpa using hcs
  subst this
  refine ⟨⟨nm, p, q, s, rs⟩, e, rfl, hv, ?_⟩
  have := bulk_part (d := xs[4].1) (l := xs.map (·.1)) (List.mem_map.2 ⟨xs[4], List.getElem_mem _, rfl⟩)
  simp only [Rows.uptoBulk]; omega
theorem open_parts {fuel : Nat} {cs : List Value} {x : DataW H × List MemPlace} (h : DataW.trod enc Tryz.prog w base spare held fuel 31 cs = some x) :
    ∃ v ps, cs = [v] ∧ PartsV w v ps ∧ ps.length + 1 ≤ Rows.uptoBulk x.1 ∧ ∀ i (hi : i < ps.length), ps[i].regs.length + 1 ≤ Rows.uptoBulk x.1 := by
  obtain ⟨va, n, cap, rfl, hbk, hrow⟩ := open_rows Tryz.underlying31 cPart (by omega) h
  obtain ⟨ps, hl, hr⟩ := list_of (p := fun i (r : PartD) => (∃ b off rv, va = some ⟨b, off, none⟩ ∧ w.cell? ⟨b, off + i * 5, none⟩ = some (.string r.name) ∧ w.cell? ⟨b, off + i * 5 + 1, none⟩ = some (.int .i64 r.period) ∧ w.cell? ⟨b, off + i * 5 + 2, none⟩ = some (.int .i64 r.duration) ∧ w.cell? ⟨b, off + i * 5 + 3, none⟩ = some (.int .i64 r.action) ∧ w.cell? ⟨b, off + i * 5 + 4, none⟩ = some rv ∧ RegsV w rv r.regs) ∧ r.regs.length + 1 ≤ Rows.uptoBulk x.1) n (fun i hi => by
    obtain ⟨b, off, row, y, k, e1, e2, e3, e4, e5⟩ := hrow i hi
    obtain ⟨r, rv, rfl, hv, hb⟩ := open_part e4
    exact ⟨r, ⟨b, off, rv, e1, e3 0 (by omega), e3 1 (by omega), e3 2 (by omega), e3 3 (by omega), e3 4 (by omega), hv⟩, by omega⟩)
  subst hl
  exact ⟨_, ps, rfl, ⟨va, cap, rfl, fun i hi => (hr i hi).1⟩, hbk, fun i hi => (hr i hi).2⟩
theorem open_chan {fuel : Nat} {cs : List Value} {x : DataW H × List MemPlace} (h : DataW.trod enc Tryz.prog w base spare held fuel 92 cs = some x) :
    ∃ r : ChanD, cs = [.string r.name, .int .i64 r.source, .int .i64 r.target, .int .i64 r.kind, .int .i64 r.size, .int .i64 r.depth] := by
  obtain ⟨xs, n, _, _, hl, hx, hf⟩ := DataW.trod_struct Tryz.underlying92 h
  rw [cChan] at hl
  obtain ⟨a, b, c, d, e, g, rfl⟩ := lst6 hl
  have hx6 : xs.length = 6 := hx
  obtain ⟨nm, rfl⟩ := fld_str hf 0 0 rfl (by omega) rfl
  obtain ⟨p, rfl⟩ := fld_int hf 1 1 rfl (by omega) rfl
  obtain ⟨q, rfl⟩ := fld_int hf 2 2 rfl (by omega) rfl
  obtain ⟨s, rfl⟩ := fld_int hf 3 3 rfl (by omega) rfl
  obtain ⟨u, rfl⟩ := fld_int hf 4 4 rfl (by omega) rfl
  obtain ⟨v, rfl⟩ := fld_int hf 5 5 rfl (by omega) rfl
  exact ⟨⟨nm, p, q, s, u, v⟩, rfl⟩
theorem open_chans {fuel : Nat} {cs : List Value} {x : DataW H × List MemPlace} (h : DataW.trod enc Tryz.prog w base spare held fuel 32 cs = some x) :
    ∃ v rs, cs = [v] ∧ ChansV w v rs ∧ rs.length + 1 ≤ Rows.uptoBulk x.1 := by
  obtain ⟨va, n, cap, rfl, hbk, hrow⟩ := open_rows Tryz.underlying32 cChan (by omega) h
  obtain ⟨rs, hl, hr⟩ := list_of (p := fun i (r : ChanD) => ∃ b off, va = some ⟨b, off, none⟩ ∧ w.cell? ⟨b, off + i * 6, none⟩ = some (.string r.name) ∧ w.cell? ⟨b, off + i * 6 + 1, none⟩ = some (.int .i64 r.source) ∧ w.cell? ⟨b, off + i * 6 + 2, none⟩ = some (.int .i64 r.target) ∧ w.cell? ⟨b, off + i * 6 + 3, none⟩ = some (.int .i64 r.kind) ∧ w.cell? ⟨b, off + i * 6 + 4, none⟩ = some (.int .i64 r.size) ∧ w.cell? ⟨b, off + i * 6 + 5, none⟩ = some (.int .i64 r.depth)) n (fun i hi => by
    obtain ⟨b, off, row, y, k, e1, e2, e3, e4, _⟩ := hrow i hi
    obtain ⟨r, rfl⟩ := open_chan e4
    exact ⟨r, b, off, e1, e3 0 (by omega), e3 1 (by omega), e3 2 (by omega), e3 3 (by omega), e3 4 (by omega), e3 5 (by omega)⟩)
  subst hl
  exact ⟨_, rs, rfl, ⟨va, cap, rfl, hr⟩, hbk⟩
theorem open_man {fuel : Nat} {cs : List Value} {x : DataW H × List MemPlace} (h : DataW.trod enc Tryz.prog w base spare held fuel 34 cs = some x) :
    ∃ f pv cv ps ks, cs = [.int .i64 f, pv, cv] ∧ PartsV w pv ps ∧ ChansV w cv ks ∧ ps.length ≤ Rows.uptoBulk x.1 ∧ ks.length ≤ Rows.uptoBulk x.1 ∧ ∀ i (hi : i < ps.length), ps[i].regs.length ≤ Rows.uptoBulk x.1 := by
  obtain ⟨xs, n, _, rfl, hl, hx, hf⟩ := DataW.trod_struct Tryz.underlying34 h
  rw [cMan] at hl
  obtain ⟨a, b, c, rfl⟩ := lst3 hl
  have hx3 : xs.length = 3 := hx
  obtain ⟨f, rfl⟩ := fld_int hf 0 0 rfl (by omega) rfl
  have h1 := fld hf 1 1 31 rfl (by omega)
  have h2 := fld hf 2 2 32 rfl (by omega)
  obtain ⟨pv, ps, hp1, hp2, hp3, hp4⟩ := open_parts h1
  obtain ⟨cv, ks, hc1, hc2, hc3⟩ := open_chans h2
  simp only [cParts] at hp1
  simp only [cChans] at hc1
  have e1 : b = pv := by simpa using hp1
  have e2 : c = cv := by simpa using hc1
  subst e1; subst e2
  have b1 := bulk_part (d := xs[1].1) (l := xs.map (·.1)) (List.mem_map.2 ⟨xs[1], List.getElem_mem _, rfl⟩)
  have b2 := bulk_part (d := xs[2].1) (l := xs.map (·.1)) (List.mem_map.2 ⟨xs[2], List.getElem_mem _, rfl⟩)
  refine ⟨f, b, c, ps, ks, rfl, hp2, hc2, ?_, ?_, fun i hi => ?_⟩
  · simp only [Rows.uptoBulk]; omega
  · simp only [Rows.uptoBulk]; omega
  · have := hp4 i hi; simp only [Rows.uptoBulk]; omega
end
end Go.Proofs.YteioennfpkoagaaGreatDoor.C
