import Derived.Test.YteioennfpkoagaaDoorCdfC
namespace Go.Proofs.YteioennfpkoagaaDoor.C
open Go.RowKit
attribute [local go_sem ↓] Go.wp_at_zero Go.wp_at_succ

/- the program's options (a word and its number), as a list in memory -/
def OptsV (w : World) (v : Value) (os : List (ByteArray × Int)) : Prop :=
  ∃ va cap, v = .slice va os.length cap ∧ ∀ i (h : i < os.length), ∃ b off, va = some ⟨b, off, none⟩ ∧
    w.cell? ⟨b, off + i * 2, none⟩ = some (.string os[i].1) ∧ w.cell? ⟨b, off + i * 2 + 1, none⟩ = some (.int .i64 os[i].2)
theorem OptsV.below {w w' : World} {v : Value} {os : List (ByteArray × Int)} (h : OptsV w v os) (hb : Below w.heap.size w w') : OptsV w' v os := by
  obtain ⟨va, cap, e, hc⟩ := h
  refine ⟨va, cap, e, fun i hi => ?_⟩
  obtain ⟨b, off, e1, h1, h2⟩ := hc i hi
  have hlt := World.block_lt_of_cell? w _ h1
  exact ⟨b, off, e1, (hb.cell (by exact hlt)).trans h1, (hb.cell (by exact hlt)).trans h2⟩

def wideP (p : PartD) : Bool := decide ((4 : Int) < (p.regs.length : Int))
def sameP (x : ByteArray) (p : PartD) : Bool := p.name.toList == x.toList
def sameC (x : ByteArray) (p : ChanD) : Bool := p.name.toList == x.toList
def sameO (v : Int) (o : ByteArray × Int) : Bool := o.2 == v
def meetR (x r : RegD) : Bool := decide (x.page < r.page + r.pages) && decide (r.page < x.page + x.pages)
theorem drawn {w w' : World} {n : Nat} (h : Below w.heap.size w w') : Below w.heap.size w (w'.drewN n) := ⟨h.os, h.tape, h.output, h.size, h.block⟩

set_option maxRecDepth 100000 in
set_option maxHeartbeats 1000000 in
theorem within_any (n lo hi : Int) (w : World) :
    Calls Tryd.prog 17 #[.int .i64 n, .int .i64 lo, .int .i64 hi] w fun e w' => e = .returned (.bool (decide (lo ≤ n) && decide (n ≤ hi))) ∧ w' = w := by
  go_enter Tryd.func17, Tryd.ntmps17
  cases h1 : decide (lo ≤ n)
  · go_wp2_with fail
    go_ret
    exact ⟨rfl, rfl⟩
  · cases h2 : decide (n ≤ hi)
    · go_wp2_with fail
      go_ret
      exact ⟨rfl, rfl⟩
    · go_wp2_with fail
      go_ret
      exact ⟨rfl, rfl⟩

set_option maxRecDepth 100000 in
set_option maxHeartbeats 1000000 in
theorem clo_wide (w : World) (nm : ByteArray) (a b d : Int) (x : Option Addr) (y z : Nat) :
    Calls Tryd.prog 32 #[.agg #[.string nm, .int .i64 a, .int .i64 b, .int .i64 d, .slice x y z]] w fun e w' => e = .returned (.bool (decide ((4 : Int) < (y : Int)))) ∧ Below w.heap.size w w' := by
  go_enter Tryd.func32, Tryd.ntmps32
  go_wp2_with fail
  go_ret
  exact ⟨rfl, (Below.refl _ w).alloc (Nat.le_refl _) _⟩

set_option maxRecDepth 100000 in
set_option maxHeartbeats 1000000 in
theorem clo_name (w : World) (bx : Nat) (one nm : ByteArray) (a b d : Int) (x : Option Addr) (y z : Nat) (hbx : w.cell? ⟨bx, 0, none⟩ = some (.string one)) :
    Calls Tryd.prog 33 #[.agg #[.string nm, .int .i64 a, .int .i64 b, .int .i64 d, .slice x y z], .pointer (some ⟨bx, 0, none⟩)] w fun e w' => e = .returned (.bool (nm.toList == one.toList)) ∧ Below w.heap.size w w' := by
  have h1 := World.block_lt_of_cell? w _ hbx
  simp only [] at h1
  go_enter Tryd.func33, Tryd.ntmps33
  go_wp2_with fail
  go_ret
  exact ⟨rfl, (Below.refl _ w).alloc (Nat.le_refl _) _⟩

set_option maxRecDepth 100000 in
set_option maxHeartbeats 1000000 in
theorem clo_cname (w : World) (bx : Nat) (one nm : ByteArray) (a b c d e : Int) (hbx : w.cell? ⟨bx, 0, none⟩ = some (.string one)) :
    Calls Tryd.prog 36 #[.agg #[.string nm, .int .i64 a, .int .i64 b, .int .i64 c, .int .i64 d, .int .i64 e], .pointer (some ⟨bx, 0, none⟩)] w fun e w' => e = .returned (.bool (nm.toList == one.toList)) ∧ Below w.heap.size w w' := by
  have h1 := World.block_lt_of_cell? w _ hbx
  simp only [] at h1
  go_enter Tryd.func36, Tryd.ntmps36
  go_wp2_with fail
  go_ret
  exact ⟨rfl, (Below.refl _ w).alloc (Nat.le_refl _) _⟩

set_option maxRecDepth 100000 in
set_option maxHeartbeats 1000000 in
theorem clo_opt (w : World) (bx : Nat) (nm : ByteArray) (a v : Int) (hbx : w.cell? ⟨bx, 0, none⟩ = some (.int .i64 v)) :
    Calls Tryd.prog 64 #[.agg #[.string nm, .int .i64 a], .pointer (some ⟨bx, 0, none⟩)] w fun e w' => e = .returned (.bool (a == v)) ∧ Below w.heap.size w w' := by
  have h1 := World.block_lt_of_cell? w _ hbx
  simp only [] at h1
  go_enter Tryd.func64, Tryd.ntmps64
  go_wp2_with fail
  go_ret
  exact ⟨rfl, (Below.refl _ w).alloc (Nat.le_refl _) _⟩

set_option maxRecDepth 100000 in
set_option maxHeartbeats 1000000 in
theorem index_wide  (qs : List PartD) (v : Value) (w : World) (hv : PartsV w v qs) (hl : qs.length ≤ 4611686018427387903)  :
    Calls Tryd.prog 49 #[v, .func (Fn.func 32) #[] #[]] w fun e w' => ∃ r : Int, e = .returned (.int .i64 r) ∧ Hid (decide (0 ≤ r) = qs.any wideP) ∧ Below w.heap.size w w' := by
  obtain ⟨va, cap, rfl, hc⟩ := hv
  have HC : Hid _ := hc
  clear hc

  go_enter Tryd.func49, Tryd.ntmps49
  go_wp2_with fail
  go_loopw [8] (fun i wr => ∃ (k : Nat), i = .int .i64 k ∧ k ≤ qs.length ∧ Hid ((qs.take k).any wideP = false) ∧ Below w.heap.size w wr) (fun i _ => qs.length - (intOf i).toNat)
  case atStart => exact ⟨0, rfl, by omega, by simp [Hid], Below.refl _ _⟩
  case round =>
    obtain ⟨k, rfl, hk, HK, hbel⟩ := hrel
    by_cases hlt : k < qs.length
    · have hlt' : (k : Int) < (qs.length : Int) := by omega
      have hk0 : (0 : Int) ≤ (k : Int) := by omega
      obtain ⟨b, off, rv, rfl, c0, c1, c2, c3, c4, hrv⟩ := HC.out k hlt
      obtain ⟨ra, rcap, rfl, hrx⟩ := hrv
      clear hrx
      have hbl := World.block_lt_of_cell? w _ c0
      have d0 := (hbel.cell (by exact hbl)).trans c0
      have d1 := (hbel.cell (by exact hbl)).trans c1
      have d2 := (hbel.cell (by exact hbl)).trans c2
      have d3 := (hbel.cell (by exact hbl)).trans c3
      have d4 := (hbel.cell (by exact hbl)).trans c4
      clear c0 c1 c2 c3 c4
      have HST : Hid ((qs.take (k + 1)).any wideP = ((qs.take k).any wideP || wideP qs[k])) := by show _ = _; rw [take_snocD qs k hlt, List.any_append]; simp
      have HMEM : Hid (qs.any wideP = false → wideP qs[k] = false) := fun h => by rw [List.any_eq_false] at h; simpa using h qs[k] (List.getElem_mem _)

      generalize qs[k] = q at *
      have hclo := clo_wide wr q.name q.period q.duration q.action ra q.regs.length rcap
      change Calls _ _ _ _ (fun e w2 => e = .returned (.bool (wideP q)) ∧ Below wr.heap.size wr w2) at hclo
      go_wp2_with fail
      refine hclo.mono ?_
      rintro e w2 ⟨rfl, hb2⟩
      cases hh : wideP q
      · have HX : Hid ((qs.take (k + 1)).any wideP = false) := by show _ = _; rw [HST.out, HK.out, hh]; rfl
        clear hh HST
        go_wp2_with fail
        go_roundw
        case rel => exact ⟨k + 1, by go_num, by omega, HX, hbel.trans (hb2.mono hbel.size)⟩
        case measure => simp [intOf]; omega
      · have HX : Hid (decide (0 ≤ (k : Int)) = qs.any wideP) := by
          show _ = _
          cases hq : qs.any wideP
          · have := HMEM.out hq; rw [hh] at this; cases this
          · simp
        clear hh HST
        go_wp2_with fail
        go_ret
        exact ⟨_, rfl, HX, hbel.trans (hb2.mono hbel.size)⟩
    · have hlt' : ¬ (k : Int) < (qs.length : Int) := by omega
      have HX : Hid (decide (0 ≤ (-1 : Int)) = qs.any wideP) := by have := HK.out; rw [List.take_of_length_le (by omega)] at this; show _ = _; rw [this]; rfl
      go_wp2_with fail
      go_ret
      exact ⟨_, rfl, HX, hbel⟩
set_option maxRecDepth 100000 in
set_option maxHeartbeats 1000000 in
theorem contains_wide  (qs : List PartD) (v : Value) (w : World) (hv : PartsV w v qs) (hl : qs.length ≤ 4611686018427387903)  :
    Calls Tryd.prog 31 #[v, .func (Fn.func 32) #[] #[]] w fun e w' => e = .returned (.bool (qs.any wideP)) ∧ Below w.heap.size w w' := by
  have hi := index_wide  qs v w hv hl 
  go_enter Tryd.func31, Tryd.ntmps31
  go_wp2_with fail
  refine hi.mono ?_
  rintro e w1 ⟨r, rfl, HR, hb⟩
  have hy := HR.out
  clear HR
  cases hq : qs.any wideP
  · rw [hq] at hy
    have HQ : Hid _ := hq
    clear hq
    go_wp2_with fail
    go_ret
    exact ⟨by rw [HQ.out]; rfl, hb⟩
  · rw [hq] at hy
    have HQ : Hid _ := hq
    clear hq
    go_wp2_with fail
    go_ret
    exact ⟨by rw [HQ.out]; rfl, hb⟩

set_option maxRecDepth 100000 in
set_option maxHeartbeats 1000000 in
theorem index_name (bx : Nat) (one : ByteArray) (qs : List PartD) (v : Value) (w : World) (hv : PartsV w v qs) (hl : qs.length ≤ 4611686018427387903) (hbx : w.cell? ⟨bx, 0, none⟩ = some (.string one)) :
    Calls Tryd.prog 49 #[v, .func (Fn.func 33) #[] #[.pointer (some ⟨bx, 0, none⟩)]] w fun e w' => ∃ r : Int, e = .returned (.int .i64 r) ∧ Hid (decide (0 ≤ r) = qs.any (sameP one)) ∧ Below w.heap.size w w' := by
  obtain ⟨va, cap, rfl, hc⟩ := hv
  have HC : Hid _ := hc
  clear hc
  have l1 := World.block_lt_of_cell? w _ hbx
  simp only [] at l1
  go_enter Tryd.func49, Tryd.ntmps49
  go_wp2_with fail
  go_loopw [8] (fun i wr => ∃ (k : Nat), i = .int .i64 k ∧ k ≤ qs.length ∧ Hid ((qs.take k).any (sameP one) = false) ∧ Below w.heap.size w wr) (fun i _ => qs.length - (intOf i).toNat)
  case atStart => exact ⟨0, rfl, by omega, by simp [Hid], Below.refl _ _⟩
  case round =>
    obtain ⟨k, rfl, hk, HK, hbel⟩ := hrel
    by_cases hlt : k < qs.length
    · have hlt' : (k : Int) < (qs.length : Int) := by omega
      have hk0 : (0 : Int) ≤ (k : Int) := by omega
      obtain ⟨b, off, rv, rfl, c0, c1, c2, c3, c4, hrv⟩ := HC.out k hlt
      obtain ⟨ra, rcap, rfl, hrx⟩ := hrv
      clear hrx
      have hbl := World.block_lt_of_cell? w _ c0
      have d0 := (hbel.cell (by exact hbl)).trans c0
      have d1 := (hbel.cell (by exact hbl)).trans c1
      have d2 := (hbel.cell (by exact hbl)).trans c2
      have d3 := (hbel.cell (by exact hbl)).trans c3
      have d4 := (hbel.cell (by exact hbl)).trans c4
      clear c0 c1 c2 c3 c4
      have HST : Hid ((qs.take (k + 1)).any (sameP one) = ((qs.take k).any (sameP one) || (sameP one) qs[k])) := by show _ = _; rw [take_snocD qs k hlt, List.any_append]; simp
      have HMEM : Hid (qs.any (sameP one) = false → (sameP one) qs[k] = false) := fun h => by rw [List.any_eq_false] at h; simpa using h qs[k] (List.getElem_mem _)

      generalize qs[k] = q at *
      have hclo := clo_name wr bx one q.name q.period q.duration q.action ra q.regs.length rcap (by rw [hbel.cell (by exact l1)]; exact hbx)
      change Calls _ _ _ _ (fun e w2 => e = .returned (.bool (sameP one q)) ∧ Below wr.heap.size wr w2) at hclo
      go_wp2_with fail
      refine hclo.mono ?_
      rintro e w2 ⟨rfl, hb2⟩
      cases hh : (sameP one) q
      · have HX : Hid ((qs.take (k + 1)).any (sameP one) = false) := by show _ = _; rw [HST.out, HK.out, hh]; rfl
        clear hh HST
        go_wp2_with fail
        go_roundw
        case rel => exact ⟨k + 1, by go_num, by omega, HX, hbel.trans (hb2.mono hbel.size)⟩
        case measure => simp [intOf]; omega
      · have HX : Hid (decide (0 ≤ (k : Int)) = qs.any (sameP one)) := by
          show _ = _
          cases hq : qs.any (sameP one)
          · have := HMEM.out hq; rw [hh] at this; cases this
          · simp
        clear hh HST
        go_wp2_with fail
        go_ret
        exact ⟨_, rfl, HX, hbel.trans (hb2.mono hbel.size)⟩
    · have hlt' : ¬ (k : Int) < (qs.length : Int) := by omega
      have HX : Hid (decide (0 ≤ (-1 : Int)) = qs.any (sameP one)) := by have := HK.out; rw [List.take_of_length_le (by omega)] at this; show _ = _; rw [this]; rfl
      go_wp2_with fail
      go_ret
      exact ⟨_, rfl, HX, hbel⟩
set_option maxRecDepth 100000 in
set_option maxHeartbeats 1000000 in
theorem contains_name (bx : Nat) (one : ByteArray) (qs : List PartD) (v : Value) (w : World) (hv : PartsV w v qs) (hl : qs.length ≤ 4611686018427387903) (hbx : w.cell? ⟨bx, 0, none⟩ = some (.string one)) :
    Calls Tryd.prog 31 #[v, .func (Fn.func 33) #[] #[.pointer (some ⟨bx, 0, none⟩)]] w fun e w' => e = .returned (.bool (qs.any (sameP one))) ∧ Below w.heap.size w w' := by
  have hi := index_name bx one qs v w hv hl hbx
  go_enter Tryd.func31, Tryd.ntmps31
  go_wp2_with fail
  refine hi.mono ?_
  rintro e w1 ⟨r, rfl, HR, hb⟩
  have hy := HR.out
  clear HR
  cases hq : qs.any (sameP one)
  · rw [hq] at hy
    have HQ : Hid _ := hq
    clear hq
    go_wp2_with fail
    go_ret
    exact ⟨by rw [HQ.out]; rfl, hb⟩
  · rw [hq] at hy
    have HQ : Hid _ := hq
    clear hq
    go_wp2_with fail
    go_ret
    exact ⟨by rw [HQ.out]; rfl, hb⟩

set_option maxRecDepth 100000 in
set_option maxHeartbeats 1000000 in
theorem index_cname (bx : Nat) (one : ByteArray) (qs : List ChanD) (v : Value) (w : World) (hv : ChansV w v qs) (hl : qs.length ≤ 4611686018427387903) (hbx : w.cell? ⟨bx, 0, none⟩ = some (.string one)) :
    Calls Tryd.prog 54 #[v, .func (Fn.func 36) #[] #[.pointer (some ⟨bx, 0, none⟩)]] w fun e w' => ∃ r : Int, e = .returned (.int .i64 r) ∧ Hid (decide (0 ≤ r) = qs.any (sameC one)) ∧ Below w.heap.size w w' := by
  obtain ⟨va, cap, rfl, hc⟩ := hv
  have HC : Hid _ := hc
  clear hc
  have l1 := World.block_lt_of_cell? w _ hbx
  simp only [] at l1
  go_enter Tryd.func54, Tryd.ntmps54
  go_wp2_with fail
  go_loopw [8] (fun i wr => ∃ (k : Nat), i = .int .i64 k ∧ k ≤ qs.length ∧ Hid ((qs.take k).any (sameC one) = false) ∧ Below w.heap.size w wr) (fun i _ => qs.length - (intOf i).toNat)
  case atStart => exact ⟨0, rfl, by omega, by simp [Hid], Below.refl _ _⟩
  case round =>
    obtain ⟨k, rfl, hk, HK, hbel⟩ := hrel
    by_cases hlt : k < qs.length
    · have hlt' : (k : Int) < (qs.length : Int) := by omega
      have hk0 : (0 : Int) ≤ (k : Int) := by omega
      obtain ⟨b, off, rfl, c0, c1, c2, c3, c4, c5⟩ := HC.out k hlt
      have hbl := World.block_lt_of_cell? w _ c0
      have d0 := (hbel.cell (by exact hbl)).trans c0
      have d1 := (hbel.cell (by exact hbl)).trans c1
      have d2 := (hbel.cell (by exact hbl)).trans c2
      have d3 := (hbel.cell (by exact hbl)).trans c3
      have d4 := (hbel.cell (by exact hbl)).trans c4
      have d5 := (hbel.cell (by exact hbl)).trans c5
      clear c0 c1 c2 c3 c4 c5
      have HST : Hid ((qs.take (k + 1)).any (sameC one) = ((qs.take k).any (sameC one) || (sameC one) qs[k])) := by show _ = _; rw [take_snocD qs k hlt, List.any_append]; simp
      have HMEM : Hid (qs.any (sameC one) = false → (sameC one) qs[k] = false) := fun h => by rw [List.any_eq_false] at h; simpa using h qs[k] (List.getElem_mem _)

      generalize qs[k] = q at *
      have hclo := clo_cname wr bx one q.name q.source q.target q.kind q.size q.depth (by rw [hbel.cell (by exact l1)]; exact hbx)
      change Calls _ _ _ _ (fun e w2 => e = .returned (.bool (sameC one q)) ∧ Below wr.heap.size wr w2) at hclo
      go_wp2_with fail
      refine hclo.mono ?_
      rintro e w2 ⟨rfl, hb2⟩
      cases hh : (sameC one) q
      · have HX : Hid ((qs.take (k + 1)).any (sameC one) = false) := by show _ = _; rw [HST.out, HK.out, hh]; rfl
        clear hh HST
        go_wp2_with fail
        go_roundw
        case rel => exact ⟨k + 1, by go_num, by omega, HX, hbel.trans (hb2.mono hbel.size)⟩
        case measure => simp [intOf]; omega
      · have HX : Hid (decide (0 ≤ (k : Int)) = qs.any (sameC one)) := by
          show _ = _
          cases hq : qs.any (sameC one)
          · have := HMEM.out hq; rw [hh] at this; cases this
          · simp
        clear hh HST
        go_wp2_with fail
        go_ret
        exact ⟨_, rfl, HX, hbel.trans (hb2.mono hbel.size)⟩
    · have hlt' : ¬ (k : Int) < (qs.length : Int) := by omega
      have HX : Hid (decide (0 ≤ (-1 : Int)) = qs.any (sameC one)) := by have := HK.out; rw [List.take_of_length_le (by omega)] at this; show _ = _; rw [this]; rfl
      go_wp2_with fail
      go_ret
      exact ⟨_, rfl, HX, hbel⟩
set_option maxRecDepth 100000 in
set_option maxHeartbeats 1000000 in
theorem contains_cname (bx : Nat) (one : ByteArray) (qs : List ChanD) (v : Value) (w : World) (hv : ChansV w v qs) (hl : qs.length ≤ 4611686018427387903) (hbx : w.cell? ⟨bx, 0, none⟩ = some (.string one)) :
    Calls Tryd.prog 37 #[v, .func (Fn.func 36) #[] #[.pointer (some ⟨bx, 0, none⟩)]] w fun e w' => e = .returned (.bool (qs.any (sameC one))) ∧ Below w.heap.size w w' := by
  have hi := index_cname bx one qs v w hv hl hbx
  go_enter Tryd.func37, Tryd.ntmps37
  go_wp2_with fail
  refine hi.mono ?_
  rintro e w1 ⟨r, rfl, HR, hb⟩
  have hy := HR.out
  clear HR
  cases hq : qs.any (sameC one)
  · rw [hq] at hy
    have HQ : Hid _ := hq
    clear hq
    go_wp2_with fail
    go_ret
    exact ⟨by rw [HQ.out]; rfl, hb⟩
  · rw [hq] at hy
    have HQ : Hid _ := hq
    clear hq
    go_wp2_with fail
    go_ret
    exact ⟨by rw [HQ.out]; rfl, hb⟩

set_option maxRecDepth 100000 in
set_option maxHeartbeats 1000000 in
theorem index_opt (bx : Nat) (one : Int) (qs : List (ByteArray × Int)) (v : Value) (w : World) (hv : OptsV w v qs) (hl : qs.length ≤ 4611686018427387903) (hbx : w.cell? ⟨bx, 0, none⟩ = some (.int .i64 one)) :
    Calls Tryd.prog 76 #[v, .func (Fn.func 64) #[] #[.pointer (some ⟨bx, 0, none⟩)]] w fun e w' => ∃ r : Int, e = .returned (.int .i64 r) ∧ Hid (decide (0 ≤ r) = qs.any (sameO one)) ∧ Below w.heap.size w w' := by
  obtain ⟨va, cap, rfl, hc⟩ := hv
  have HC : Hid _ := hc
  clear hc
  have l1 := World.block_lt_of_cell? w _ hbx
  simp only [] at l1
  go_enter Tryd.func76, Tryd.ntmps76
  go_wp2_with fail
  go_loopw [8] (fun i wr => ∃ (k : Nat), i = .int .i64 k ∧ k ≤ qs.length ∧ Hid ((qs.take k).any (sameO one) = false) ∧ Below w.heap.size w wr) (fun i _ => qs.length - (intOf i).toNat)
  case atStart => exact ⟨0, rfl, by omega, by simp [Hid], Below.refl _ _⟩
  case round =>
    obtain ⟨k, rfl, hk, HK, hbel⟩ := hrel
    by_cases hlt : k < qs.length
    · have hlt' : (k : Int) < (qs.length : Int) := by omega
      have hk0 : (0 : Int) ≤ (k : Int) := by omega
      obtain ⟨b, off, rfl, c0, c1⟩ := HC.out k hlt
      have hbl := World.block_lt_of_cell? w _ c0
      have d0 := (hbel.cell (by exact hbl)).trans c0
      have d1 := (hbel.cell (by exact hbl)).trans c1
      clear c0 c1
      have HST : Hid ((qs.take (k + 1)).any (sameO one) = ((qs.take k).any (sameO one) || (sameO one) qs[k])) := by show _ = _; rw [take_snocD qs k hlt, List.any_append]; simp
      have HMEM : Hid (qs.any (sameO one) = false → (sameO one) qs[k] = false) := fun h => by rw [List.any_eq_false] at h; simpa using h qs[k] (List.getElem_mem _)

      generalize qs[k] = q at *
      have hclo := clo_opt wr bx q.1 q.2 one (by rw [hbel.cell (by exact l1)]; exact hbx)
      change Calls _ _ _ _ (fun e w2 => e = .returned (.bool (sameO one q)) ∧ Below wr.heap.size wr w2) at hclo
      go_wp2_with fail
      refine hclo.mono ?_
      rintro e w2 ⟨rfl, hb2⟩
      cases hh : (sameO one) q
      · have HX : Hid ((qs.take (k + 1)).any (sameO one) = false) := by show _ = _; rw [HST.out, HK.out, hh]; rfl
        clear hh HST
        go_wp2_with fail
        go_roundw
        case rel => exact ⟨k + 1, by go_num, by omega, HX, hbel.trans (hb2.mono hbel.size)⟩
        case measure => simp [intOf]; omega
      · have HX : Hid (decide (0 ≤ (k : Int)) = qs.any (sameO one)) := by
          show _ = _
          cases hq : qs.any (sameO one)
          · have := HMEM.out hq; rw [hh] at this; cases this
          · simp
        clear hh HST
        go_wp2_with fail
        go_ret
        exact ⟨_, rfl, HX, hbel.trans (hb2.mono hbel.size)⟩
    · have hlt' : ¬ (k : Int) < (qs.length : Int) := by omega
      have HX : Hid (decide (0 ≤ (-1 : Int)) = qs.any (sameO one)) := by have := HK.out; rw [List.take_of_length_le (by omega)] at this; show _ = _; rw [this]; rfl
      go_wp2_with fail
      go_ret
      exact ⟨_, rfl, HX, hbel⟩
set_option maxRecDepth 100000 in
set_option maxHeartbeats 1000000 in
theorem contains_opt (bx : Nat) (one : Int) (qs : List (ByteArray × Int)) (v : Value) (w : World) (hv : OptsV w v qs) (hl : qs.length ≤ 4611686018427387903) (hbx : w.cell? ⟨bx, 0, none⟩ = some (.int .i64 one)) :
    Calls Tryd.prog 63 #[v, .func (Fn.func 64) #[] #[.pointer (some ⟨bx, 0, none⟩)]] w fun e w' => e = .returned (.bool (qs.any (sameO one))) ∧ Below w.heap.size w w' := by
  have hi := index_opt bx one qs v w hv hl hbx
  go_enter Tryd.func63, Tryd.ntmps63
  go_wp2_with fail
  refine hi.mono ?_
  rintro e w1 ⟨r, rfl, HR, hb⟩
  have hy := HR.out
  clear HR
  cases hq : qs.any (sameO one)
  · rw [hq] at hy
    have HQ : Hid _ := hq
    clear hq
    go_wp2_with fail
    go_ret
    exact ⟨by rw [HQ.out]; rfl, hb⟩
  · rw [hq] at hy
    have HQ : Hid _ := hq
    clear hq
    go_wp2_with fail
    go_ret
    exact ⟨by rw [HQ.out]; rfl, hb⟩

set_option maxRecDepth 100000 in
set_option maxHeartbeats 1000000 in
theorem meet_any (w : World) (x r : RegD) (hx : regB x = true) (hr : regB r = true) :
    Calls Tryd.prog 66 #[.agg #[.int .i64 x.page, .int .i64 x.pages, .int .i64 x.rights], .agg #[.int .i64 r.page, .int .i64 r.pages, .int .i64 r.rights]] w fun e w' => e = .returned (.bool (meetR x r)) ∧ Below w.heap.size w w' := by
  unfold regB at hx hr
  simp only [decide_eq_true_eq] at hx hr
  have w1 : IntKind.i64.wrap (r.page + r.pages) = r.page + r.pages := wrap_small _ (by omega) (by omega)
  have w2 : IntKind.i64.wrap (x.page + x.pages) = x.page + x.pages := wrap_small _ (by omega) (by omega)
  clear hx hr
  unfold meetR
  cases h1 : decide (x.page < r.page + r.pages)
  all_goals cases h2 : decide (r.page < x.page + x.pages)
  all_goals go_enter Tryd.func66, Tryd.ntmps66
  all_goals go_wp2_with fail
  all_goals try (go_quiet (fail))
  all_goals try (go_wp2_with fail)
  all_goals try (go_quiet (fail))
  all_goals try (go_wp2_with fail)
  all_goals go_ret
  all_goals first
    | exact ⟨rfl, drawn (drawn (((Below.refl _ w).alloc (Nat.le_refl _) _).alloc (by simp) _))⟩
    | exact ⟨rfl, drawn (((Below.refl _ w).alloc (Nat.le_refl _) _).alloc (by simp) _)⟩
    | exact ⟨rfl, ((Below.refl _ w).alloc (Nat.le_refl _) _).alloc (by simp) _⟩

set_option maxRecDepth 100000 in
set_option maxHeartbeats 1000000 in
theorem clo_meet (w : World) (bx : Nat) (x r : RegD) (hx : regB x = true) (hr : regB r = true) (h0 : w.cell? ⟨bx, 0, none⟩ = some (.int .i64 x.page)) (h1 : w.cell? ⟨bx, 1, none⟩ = some (.int .i64 x.pages)) (h2 : w.cell? ⟨bx, 2, none⟩ = some (.int .i64 x.rights)) :
    Calls Tryd.prog 65 #[.agg #[.int .i64 r.page, .int .i64 r.pages, .int .i64 r.rights], .pointer (some ⟨bx, 0, none⟩)] w fun e w' => e = .returned (.bool (meetR x r)) ∧ Below w.heap.size w w' := by
  have l1 := World.block_lt_of_cell? w _ h0
  simp only [] at l1
  go_enter Tryd.func65, Tryd.ntmps65
  go_wp2_with fail
  refine (meet_any _ x r hx hr).mono ?_
  rintro e w1 ⟨rfl, hb⟩
  have b0 : Below w.heap.size w (w.alloc (.cells #[.int .i64 r.page, .int .i64 r.pages, .int .i64 r.rights] 48)) := (Below.refl _ w).alloc (Nat.le_refl _) _
  go_wp2_with fail
  go_ret
  exact ⟨rfl, b0.trans (hb.mono b0.size)⟩

set_option maxRecDepth 100000 in
set_option maxHeartbeats 1000000 in
theorem index_meet (bx : Nat) (one : RegD) (qs : List RegD) (v : Value) (w : World) (hv : RegsV w v qs) (hl : qs.length ≤ 4611686018427387903) (h0 : w.cell? ⟨bx, 0, none⟩ = some (.int .i64 one.page)) (h1 : w.cell? ⟨bx, 1, none⟩ = some (.int .i64 one.pages)) (h2 : w.cell? ⟨bx, 2, none⟩ = some (.int .i64 one.rights)) (hx : regB one = true) (hq : ∀ r ∈ qs, regB r = true) :
    Calls Tryd.prog 77 #[v, .func (Fn.func 65) #[] #[.pointer (some ⟨bx, 0, none⟩)]] w fun e w' => ∃ r : Int, e = .returned (.int .i64 r) ∧ Hid (decide (0 ≤ r) = qs.any (meetR one)) ∧ Below w.heap.size w w' := by
  obtain ⟨va, cap, rfl, hc⟩ := hv
  have HC : Hid _ := hc
  clear hc
  have l1 := World.block_lt_of_cell? w _ h0
  simp only [] at l1
  have HX : Hid _ := hx
  have HQ : Hid _ := hq
  clear hx hq
  go_enter Tryd.func77, Tryd.ntmps77
  go_wp2_with fail
  go_loopw [8] (fun i wr => ∃ (k : Nat), i = .int .i64 k ∧ k ≤ qs.length ∧ Hid ((qs.take k).any (meetR one) = false) ∧ Below w.heap.size w wr) (fun i _ => qs.length - (intOf i).toNat)
  case atStart => exact ⟨0, rfl, by omega, by simp [Hid], Below.refl _ _⟩
  case round =>
    obtain ⟨k, rfl, hk, HK, hbel⟩ := hrel
    by_cases hlt : k < qs.length
    · have hlt' : (k : Int) < (qs.length : Int) := by omega
      have hk0 : (0 : Int) ≤ (k : Int) := by omega
      obtain ⟨b, off, rfl, c0, c1, c2⟩ := HC.out k hlt
      have hbl := World.block_lt_of_cell? w _ c0
      have d0 := (hbel.cell (by exact hbl)).trans c0
      have d1 := (hbel.cell (by exact hbl)).trans c1
      have d2 := (hbel.cell (by exact hbl)).trans c2
      clear c0 c1 c2
      have HST : Hid ((qs.take (k + 1)).any (meetR one) = ((qs.take k).any (meetR one) || (meetR one) qs[k])) := by show _ = _; rw [take_snocD qs k hlt, List.any_append]; simp
      have HMEM : Hid (qs.any (meetR one) = false → (meetR one) qs[k] = false) := fun h => by rw [List.any_eq_false] at h; simpa using h qs[k] (List.getElem_mem _)
      have HRB : Hid _ := HQ.out qs[k] (List.getElem_mem _)
      generalize qs[k] = q at *
      have hclo := clo_meet wr bx one q HX.out HRB.out (by rw [hbel.cell (by exact l1)]; exact h0) (by rw [hbel.cell (by exact l1)]; exact h1) (by rw [hbel.cell (by exact l1)]; exact h2)
      go_wp2_with fail
      refine hclo.mono ?_
      rintro e w2 ⟨rfl, hb2⟩
      cases hh : (meetR one) q
      · have HX : Hid ((qs.take (k + 1)).any (meetR one) = false) := by show _ = _; rw [HST.out, HK.out, hh]; rfl
        clear hh HST
        go_wp2_with fail
        go_roundw
        case rel => exact ⟨k + 1, by go_num, by omega, HX, hbel.trans (hb2.mono hbel.size)⟩
        case measure => simp [intOf]; omega
      · have HX : Hid (decide (0 ≤ (k : Int)) = qs.any (meetR one)) := by
          show _ = _
          cases hq : qs.any (meetR one)
          · have := HMEM.out hq; rw [hh] at this; cases this
          · simp
        clear hh HST
        go_wp2_with fail
        go_ret
        exact ⟨_, rfl, HX, hbel.trans (hb2.mono hbel.size)⟩
    · have hlt' : ¬ (k : Int) < (qs.length : Int) := by omega
      have HX : Hid (decide (0 ≤ (-1 : Int)) = qs.any (meetR one)) := by have := HK.out; rw [List.take_of_length_le (by omega)] at this; show _ = _; rw [this]; rfl
      go_wp2_with fail
      go_ret
      exact ⟨_, rfl, HX, hbel⟩
set_option maxRecDepth 100000 in
set_option maxHeartbeats 1000000 in
theorem contains_meet (bx : Nat) (one : RegD) (qs : List RegD) (v : Value) (w : World) (hv : RegsV w v qs) (hl : qs.length ≤ 4611686018427387903) (h0 : w.cell? ⟨bx, 0, none⟩ = some (.int .i64 one.page)) (h1 : w.cell? ⟨bx, 1, none⟩ = some (.int .i64 one.pages)) (h2 : w.cell? ⟨bx, 2, none⟩ = some (.int .i64 one.rights)) (hx : regB one = true) (hq : ∀ r ∈ qs, regB r = true) :
    Calls Tryd.prog 68 #[v, .func (Fn.func 65) #[] #[.pointer (some ⟨bx, 0, none⟩)]] w fun e w' => e = .returned (.bool (qs.any (meetR one))) ∧ Below w.heap.size w w' := by
  have hi := index_meet bx one qs v w hv hl h0 h1 h2 hx hq
  go_enter Tryd.func68, Tryd.ntmps68
  go_wp2_with fail
  refine hi.mono ?_
  rintro e w1 ⟨r, rfl, HR, hb⟩
  have hy := HR.out
  clear HR
  cases hq : qs.any (meetR one)
  · rw [hq] at hy
    have HQ : Hid _ := hq
    clear hq
    go_wp2_with fail
    go_ret
    exact ⟨by rw [HQ.out]; rfl, hb⟩
  · rw [hq] at hy
    have HQ : Hid _ := hq
    clear hq
    go_wp2_with fail
    go_ret
    exact ⟨by rw [HQ.out]; rfl, hb⟩
end Go.Proofs.YteioennfpkoagaaDoor.C
