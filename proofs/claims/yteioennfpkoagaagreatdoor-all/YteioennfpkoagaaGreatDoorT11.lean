import Derived.Test.YteioennfpkoagaaGreatDoorT10
import Derived.Test.YteioennfpkoagaaGreatDoorT09
namespace Go.Proofs.YteioennfpkoagaaGreatDoor.C
open Go.RowKit K

theorem setS_self (f : Nat → PRc) (i : Nat) : setS f i (f i).S = f := funext fun q => by
  unfold setS
  split
  · rename_i e; subst e; rfl
  · rfl
theorem setT_self (f : Nat → PRc) (i : Nat) : setT f i (f i).T = f := funext fun q => by
  unfold setT
  split
  · rename_i e; subst e; rfl
  · rfl
section
variable {I : KerI} {M : MnS} {w0 w : World} {wb n q k i : Nat} {f : Nat → PRc} {L : List Nat}
theorem WP.xrunning (h : WP I M w0 wb n q k f L w) (hi : i < k) (hn : n ≤ 4000000000000000000) :
    Calls Tryz.prog 35 #[.pointer (some (f i).x)] w fun e w' => e = .returned (.int .i64 (runF (M.D (f i).j) (f i).S)) ∧ WP I M w0 wb n q k f L w' ∧ stayB L w w' := by
  obtain ⟨W, tag, rv, ox, oy, h⟩ := h
  have hq := h.prs i hi
  exact (I.running hq.kv (hq.ss.mono (by unfold bigK; omega))).mono fun e w' ⟨h1, h2⟩ => ⟨h1, by have := h.callX hi h2 hq.ss (Nat.le_refl _); rw [setS_self] at this; exact this⟩
theorem WP.yrunning (h : WP I M w0 wb n q k f L w) (hi : i < k) (hn : n ≤ 4000000000000000000) (hq : q ≤ 4398046511000) :
    Calls Tryz.prog 157 #[ptrV (f i).y] w fun e w' => e = .returned (.int .i64 (runF (M.D (f i).j) (f i).T)) ∧ WP I M w0 wb n q k f L w' ∧ stayB L w w' := by
  obtain ⟨W, tag, rv, ox, oy, h⟩ := h
  have hr := h.prs i hi
  exact (hr.rk.running (hr.st.mono (by unfold bigK; omega)) hq).mono fun e w' ⟨h1, h2⟩ => ⟨h1, by have := h.callY hi h2 hr.st (Nat.le_refl _) (Nat.le_refl _); rw [setT_self] at this; exact this⟩
theorem WP.xread (h : WP I M w0 wb n q k f L w) (hi : i < k) (hn : n ≤ 4000000000000000000) {p a : Int} (hp : inR p) (ha : inR a) :
    Calls Tryz.prog 29 #[.pointer (some (f i).x), .int .i64 p, .int .i64 a] w fun e w' => e = .returned (.tuple #[.int .i64 (readF (M.D (f i).j) (f i).S p a).1, .int .i64 (readF (M.D (f i).j) (f i).S p a).2.1]) ∧ WP I M w0 wb (n + 1) q k (setS f i (readF (M.D (f i).j) (f i).S p a).2.2) L w' ∧ stayB L w w' := by
  obtain ⟨W, tag, rv, ox, oy, h⟩ := h
  have hq := h.prs i hi
  exact (I.read hq.kv (hq.ss.mono (by unfold bigK; omega)) hp ha).mono fun e w' ⟨h1, h2⟩ => ⟨h1, h.callX hi h2 (hq.ss.read _ _ _) (Nat.le_succ _)⟩
theorem WP.yread (h : WP I M w0 wb n q k f L w) (hi : i < k) (hn : n ≤ 4000000000000000000) (hq : q ≤ 4398046511000) {p a : Int} (hp : inR p) (ha : inR a) :
    Calls Tryz.prog 161 #[ptrV (f i).y, .int .i64 p, .int .i64 a] w fun e w' => e = .returned (.tuple #[.int .i64 (readF (M.D (f i).j) (f i).T p a).1, .int .i64 (readF (M.D (f i).j) (f i).T p a).2.1]) ∧ WP I M w0 wb (n + 1) (q + 1) k (setT f i (readF (M.D (f i).j) (f i).T p a).2.2) L w' ∧ stayB L w w' := by
  obtain ⟨W, tag, rv, ox, oy, h⟩ := h
  have hr := h.prs i hi
  exact (hr.rk.read (hr.st.mono (by unfold bigK; omega)) hq hp ha).mono fun e w' ⟨h1, h2⟩ => ⟨h1, h.callY hi h2 (hr.st.read _ _ _) (Nat.le_succ _) (Nat.le_succ _)⟩
theorem WP.xwrite (h : WP I M w0 wb n q k f L w) (hi : i < k) (hn : n ≤ 4000000000000000000) {p a b : Int} (hp : inR p) (ha : inR a) (hb : inR b) :
    Calls Tryz.prog 30 #[.pointer (some (f i).x), .int .i64 p, .int .i64 a, .int .i64 b] w fun e w' => e = .returned (.int .i64 (writeF (M.D (f i).j) (f i).S p a b).1) ∧ WP I M w0 wb (n + 1) q k (setS f i (writeF (M.D (f i).j) (f i).S p a b).2) L w' ∧ stayB L w w' := by
  obtain ⟨W, tag, rv, ox, oy, h⟩ := h
  have hq := h.prs i hi
  exact (I.write hq.kv (hq.ss.mono (by unfold bigK; omega)) hp ha hb).mono fun e w' ⟨h1, h2⟩ => ⟨h1, h.callX hi h2 (hq.ss.write _ _ _ _) (Nat.le_succ _)⟩
theorem WP.ywrite (h : WP I M w0 wb n q k f L w) (hi : i < k) (hn : n ≤ 4000000000000000000) (hq : q ≤ 4398046511000) {p a b : Int} (hp : inR p) (ha : inR a) (hb : inR b) :
    Calls Tryz.prog 162 #[ptrV (f i).y, .int .i64 p, .int .i64 a, .int .i64 b] w fun e w' => e = .returned (.int .i64 (writeF (M.D (f i).j) (f i).T p a b).1) ∧ WP I M w0 wb (n + 1) (q + 1) k (setT f i (writeF (M.D (f i).j) (f i).T p a b).2) L w' ∧ stayB L w w' := by
  obtain ⟨W, tag, rv, ox, oy, h⟩ := h
  have hr := h.prs i hi
  exact (hr.rk.write (hr.st.mono (by unfold bigK; omega)) hq hp ha hb).mono fun e w' ⟨h1, h2⟩ => ⟨h1, h.callY hi h2 (hr.st.write _ _ _ _) (Nat.le_succ _) (Nat.le_succ _)⟩
theorem WP.xsend (h : WP I M w0 wb n q k f L w) (hi : i < k) (hn : n ≤ 4000000000000000000) {p c : Int} {s : ByteArray} (hp : inR p) (hc : inR c) (hz : s.size ≤ 9223372036854775807) :
    Calls Tryz.prog 31 #[.pointer (some (f i).x), .int .i64 p, .int .i64 c, .string s] w fun e w' => e = .returned (.int .i64 (sendF (M.D (f i).j) (f i).S p c s).1) ∧ WP I M w0 wb (n + 1) q k (setS f i (sendF (M.D (f i).j) (f i).S p c s).2) L w' ∧ stayB L w w' := by
  obtain ⟨W, tag, rv, ox, oy, h⟩ := h
  have hq := h.prs i hi
  exact (I.send hq.kv (hq.ss.mono (by unfold bigK; omega)) hp hc hz).mono fun e w' ⟨h1, h2⟩ => ⟨h1, h.callX hi h2 ((hq.ss.send _ _ _ _).mono (Nat.le_succ _)) (Nat.le_succ _)⟩
theorem WP.ysend (h : WP I M w0 wb n q k f L w) (hi : i < k) (hn : n ≤ 4000000000000000000) (hq : q ≤ 4398046511000) {p c : Int} {s : ByteArray} (hp : inR p) (hc : inR c) (hz : s.size ≤ 9223372036854775807) :
    Calls Tryz.prog 163 #[ptrV (f i).y, .int .i64 p, .int .i64 c, .string s] w fun e w' => e = .returned (.int .i64 (sendF (M.D (f i).j) (f i).T p c s).1) ∧ WP I M w0 wb (n + 1) (q + 1) k (setT f i (sendF (M.D (f i).j) (f i).T p c s).2) L w' ∧ stayB L w w' := by
  obtain ⟨W, tag, rv, ox, oy, h⟩ := h
  have hr := h.prs i hi
  exact (hr.rk.send (hr.st.mono (by unfold bigK; omega)) hq hp hc hz).mono fun e w' ⟨h1, h2⟩ => ⟨h1, h.callY hi h2 ((hr.st.send _ _ _ _).mono (Nat.le_succ _)) (Nat.le_succ _) (Nat.le_succ _)⟩
theorem WP.xrecv (h : WP I M w0 wb n q k f L w) (hi : i < k) (hn : n ≤ 4000000000000000000) {p c : Int} (hp : inR p) (hc : inR c) :
    Calls Tryz.prog 32 #[.pointer (some (f i).x), .int .i64 p, .int .i64 c] w fun e w' => e = .returned (.tuple #[.string (recvF (M.D (f i).j) (f i).S p c).1.1, .bool (recvF (M.D (f i).j) (f i).S p c).1.2.1, .int .i64 (recvF (M.D (f i).j) (f i).S p c).1.2.2]) ∧ WP I M w0 wb (n + 1) q k (setS f i (recvF (M.D (f i).j) (f i).S p c).2) L w' ∧ stayB L w w' := by
  obtain ⟨W, tag, rv, ox, oy, h⟩ := h
  have hq := h.prs i hi
  exact (I.recv hq.kv (hq.ss.mono (by unfold bigK; omega)) hp hc).mono fun e w' ⟨h1, h2⟩ => ⟨h1, h.callX hi h2 ((hq.ss.recv _ _ _).mono (Nat.le_succ _)) (Nat.le_succ _)⟩
theorem WP.yrecv (h : WP I M w0 wb n q k f L w) (hi : i < k) (hn : n ≤ 4000000000000000000) (hq : q ≤ 4398046511000) {p c : Int} (hp : inR p) (hc : inR c) :
    Calls Tryz.prog 164 #[ptrV (f i).y, .int .i64 p, .int .i64 c] w fun e w' => e = .returned (.tuple #[.string (recvF (M.D (f i).j) (f i).T p c).1.1, .bool (recvF (M.D (f i).j) (f i).T p c).1.2.1, .int .i64 (recvF (M.D (f i).j) (f i).T p c).1.2.2]) ∧ WP I M w0 wb (n + 1) (q + 1) k (setT f i (recvF (M.D (f i).j) (f i).T p c).2) L w' ∧ stayB L w w' := by
  obtain ⟨W, tag, rv, ox, oy, h⟩ := h
  have hr := h.prs i hi
  exact (hr.rk.recv (hr.st.mono (by unfold bigK; omega)) hq hp hc).mono fun e w' ⟨h1, h2⟩ => ⟨h1, h.callY hi h2 ((hr.st.recv _ _ _).mono (Nat.le_succ _)) (Nat.le_succ _) (Nat.le_succ _)⟩
theorem WP.xraise (h : WP I M w0 wb n q k f L w) (hi : i < k) (hn : n ≤ 4000000000000000000) {p : Int} (hp : inR p) :
    Calls Tryz.prog 33 #[.pointer (some (f i).x), .int .i64 p] w fun e w' => e = .returned (.int .i64 (raiseF (M.D (f i).j) (f i).S p).1) ∧ WP I M w0 wb (n + 1) q k (setS f i (raiseF (M.D (f i).j) (f i).S p).2) L w' ∧ stayB L w w' := by
  obtain ⟨W, tag, rv, ox, oy, h⟩ := h
  have hq := h.prs i hi
  exact (I.raise hq.kv (hq.ss.mono (by unfold bigK; omega)) hp).mono fun e w' ⟨h1, h2⟩ => ⟨h1, h.callX hi h2 (hq.ss.raise _ _) (Nat.le_succ _)⟩
theorem WP.yraise (h : WP I M w0 wb n q k f L w) (hi : i < k) (hn : n ≤ 4000000000000000000) (hq : q ≤ 4398046511000) {p : Int} (hp : inR p) :
    Calls Tryz.prog 100 #[ptrV (f i).y, .int .i64 p] w fun e w' => e = .returned (.int .i64 (raiseF (M.D (f i).j) (f i).T p).1) ∧ WP I M w0 wb (n + 1) (q + 1) k (setT f i (raiseF (M.D (f i).j) (f i).T p).2) L w' ∧ stayB L w w' := by
  obtain ⟨W, tag, rv, ox, oy, h⟩ := h
  have hr := h.prs i hi
  exact (hr.rk.raise (hr.st.mono (by unfold bigK; omega)) hq hp).mono fun e w' ⟨h1, h2⟩ => ⟨h1, h.callY hi h2 (hr.st.raise _ _) (Nat.le_succ _) (Nat.le_succ _)⟩
theorem WP.xstate (h : WP I M w0 wb n q k f L w) (hi : i < k) (hn : n ≤ 4000000000000000000) {p : Int} (hp : inR p) :
    Calls Tryz.prog 28 #[.pointer (some (f i).x), .int .i64 p] w fun e w' => e = .returned (.tuple #[stV (stateF (M.D (f i).j) (f i).S p).1, .int .i64 (stateF (M.D (f i).j) (f i).S p).2]) ∧ WP I M w0 wb n q k f L w' ∧ stayB L w w' := by
  obtain ⟨W, tag, rv, ox, oy, h⟩ := h
  have hq := h.prs i hi
  exact (I.state hq.kv (hq.ss.mono (by unfold bigK; omega)) hp).mono fun e w' ⟨h1, h2⟩ => ⟨h1, by have := h.callX hi h2 hq.ss (Nat.le_refl _); rw [setS_self] at this; exact this⟩
theorem WP.ystate (h : WP I M w0 wb n q k f L w) (hi : i < k) (hn : n ≤ 4000000000000000000) (hq : q ≤ 4398046511000) {p : Int} (hp : inR p) :
    Calls Tryz.prog 160 #[ptrV (f i).y, .int .i64 p] w fun e w' => e = .returned (.tuple #[stV (stateF (M.D (f i).j) (f i).T p).1, .int .i64 (stateF (M.D (f i).j) (f i).T p).2]) ∧ WP I M w0 wb n q k f L w' ∧ stayB L w w' := by
  obtain ⟨W, tag, rv, ox, oy, h⟩ := h
  have hr := h.prs i hi
  exact (hr.rk.state (hr.st.mono (by unfold bigK; omega)) hq hp).mono fun e w' ⟨h1, h2⟩ => ⟨h1, by have := h.callY hi h2 hr.st (Nat.le_refl _) (Nat.le_refl _); rw [setT_self] at this; exact this⟩
theorem WP.xtick (h : WP I M w0 wb n q k f L w) (hi : i < k) (hn : n ≤ 4000000000000000000) :
    Calls Tryz.prog 34 #[.pointer (some (f i).x)] w fun e w' => e = .returned (.tuple #[]) ∧ WP I M w0 wb (n + 1) q k (setS f i (tickK (f i).S)) L w' ∧ stayB L w w' := by
  obtain ⟨W, tag, rv, ox, oy, h⟩ := h
  have hq := h.prs i hi
  exact (I.tick hq.kv (hq.ss.mono (by unfold bigK; omega))).mono fun e w' ⟨h1, h2⟩ => ⟨h1, h.callX hi h2 hq.ss.tick (Nat.le_succ _)⟩
theorem WP.ytick (h : WP I M w0 wb n q k f L w) (hi : i < k) : WP I M w0 wb (n + 1) q k (setT f i (tickK (f i).T)) L (w.setCell ⟨(f i).y, 4, none⟩ (.int .i64 (((f i).T.time : Int) + 1))) := by
  obtain ⟨W, tag, rv, ox, oy, h⟩ := h
  have hr := h.prs i hi
  exact (h.callY hi hr.rk.tick hr.st.tick (Nat.le_succ _) (Nat.le_refl _)).1
theorem WP.ycells (h : WP I M w0 wb n q k f L w) (hi : i < k) : w.cell? ⟨(f i).y, 4, none⟩ = some (.int .i64 ((f i).T.time : Int)) ∧ w.frozen? ⟨(f i).y, 4, none⟩ = false ∧ (f i).T.time ≤ n ∧ ∃ va cap, w.cell? ⟨(f i).y, 5, none⟩ = some (.slice va (M.D (f i).j).parts.length cap) ∧ (M.D (f i).j).parts.length ≤ 8 := by
  obtain ⟨W, tag, rv, ox, oy, h⟩ := h
  have hq := h.prs i hi
  obtain ⟨qv, sv, lv, mv, ss, ls, ms, h1, _, _, _⟩ := hq.rk.out
  obtain ⟨va, cap, rfl, _⟩ := h1.state
  exact ⟨by rw [cell_of_blk h1.ker]; rfl, frozen_of_blk h1.ker, hq.st.time, va, cap, by rw [cell_of_blk h1.ker]; rfl, (check_ok hq.rk.chk).2.2.1⟩
end
end Go.Proofs.YteioennfpkoagaaGreatDoor.C
namespace Go.Proofs.YteioennfpkoagaaGreatDoor.C
open Go.RowKit K
attribute [local go_sem ↓] Go.wp_at_zero Go.wp_at_succ

structure OpD where
  kind : Int
  ker : Int
  p : Int
  n : Int
  b : Int
  text : ByteArray
  ticks : Int
def opC (o : OpD) : Array Value := #[.int .i64 o.kind, .int .i64 o.ker, .int .i64 o.p, .int .i64 o.n, .int .i64 o.b, .string o.text, .int .i64 o.ticks]
structure OpR (o : OpD) : Prop where
  kind : inR o.kind
  ker : inR o.ker
  p : inR o.p
  n : inR o.n
  b : inR o.b
  text : o.text.size ≤ 9223372036854775807
  ticks : inR o.ticks
def OpsV (w : World) (v : Value) (os : List OpD) : Prop := (∀ x ∈ os, OpR x) ∧ ∃ va cap, v = .slice va os.length cap ∧ ∀ i (h : i < os.length), ∃ b off, va = some ⟨b, off, none⟩ ∧ w.cell? ⟨b, off + i * 7, none⟩ = some (.int .i64 os[i].kind) ∧ w.cell? ⟨b, off + i * 7 + 1, none⟩ = some (.int .i64 os[i].ker) ∧ w.cell? ⟨b, off + i * 7 + 2, none⟩ = some (.int .i64 os[i].p) ∧ w.cell? ⟨b, off + i * 7 + 3, none⟩ = some (.int .i64 os[i].n) ∧ w.cell? ⟨b, off + i * 7 + 4, none⟩ = some (.int .i64 os[i].b) ∧ w.cell? ⟨b, off + i * 7 + 5, none⟩ = some (.string os[i].text) ∧ w.cell? ⟨b, off + i * 7 + 6, none⟩ = some (.int .i64 os[i].ticks)
theorem lpick_any (c n : Int) (hc : inR c) (hn : 0 < n ∧ n ≤ 4398046511104) (w : World) :
    Calls Tryz.prog 97 #[.int .i64 c, .int .i64 n] w fun e w' => e = .returned (.int .i64 (pickF c n)) ∧ w' = w := by
  obtain ⟨hc1, hc2⟩ := hc
  have hn0 : n ≠ 0 := by omega
  by_cases h : c < 0
  · go_enter Tryz.func97, Tryz.ntmps97
    go_wp2_with fail
    go_ret
    refine ⟨?_, rfl⟩
    unfold pickF
    rw [if_pos h]
    show Ending.returned (Value.int IntKind.i64 (-((c + 1).tmod n))) = _
    rw [← Int.neg_tmod, Int.tmod_eq_emod_of_nonneg (by omega)]
  · go_enter Tryz.func97, Tryz.ntmps97
    go_wp2_with fail
    go_ret
    refine ⟨?_, rfl⟩
    unfold pickF
    rw [if_neg (by omega)]
    rfl
section
variable {I : KerI} {M : MnS} {w0 w : World} {wb n q k i : Nat} {f : Nat → PRc} {L : List Nat}
set_option maxRecDepth 100000 in
set_option maxHeartbeats 2000000 in
theorem lrunning_any (h : WP I M w0 wb n q k f L w) (hi : i < k) (hg : (f i).S = (f i).T) (hn : n ≤ 4000000000000000000) (hq : q ≤ 4398046511000) :
    Calls Tryz.prog 99 #[ptrV (f i).pb] w fun e w' => e = .returned (.bool true) ∧ WP I M w0 wb n q k f L w' := by
  have HW : Hid (WP I M w0 wb n q k f L w) := h
  have c0 : w.cell? ⟨(f i).pb, 0, none⟩ = some (.pointer (some (f i).x)) := by rw [cell_of_blk (h.pair hi)]; rfl
  have HG : Hid ((f i).S = (f i).T) := hg
  clear h hg
  unfold ptrV
  go_enter Tryz.func99, Tryz.ntmps99
  go_wp2_with fail
  refine Calls.mono (HW.out.xrunning hi hn) ?_
  rintro e w1 ⟨rfl, h1, _⟩
  have HW1 : Hid (WP I M w0 wb n q k f L w1) := h1
  have c1 : w1.cell? ⟨(f i).pb, 1, none⟩ = some (.pointer (some ⟨(f i).y, 0, none⟩)) := by rw [cell_of_blk (h1.pair hi)]; rfl
  clear h1 c0
  go_wp2_with fail
  refine Calls.mono (HW1.out.yrunning hi hn hq) ?_
  rintro e w2 ⟨rfl, h2, _⟩
  rw [HG.out]
  go_wp2_with fail
  go_ret
  exact ⟨by simp, h2⟩
set_option maxRecDepth 100000 in
set_option maxHeartbeats 2000000 in
theorem lstate_any (h : WP I M w0 wb n q k f L w) (hi : i < k) (hg : (f i).S = (f i).T) (hn : n ≤ 4000000000000000000) (hq : q ≤ 4398046511000) (p : Int) (hp : inR p) :
    Calls Tryz.prog 101 #[ptrV (f i).pb, .int .i64 p] w fun e w' => e = .returned (.bool true) ∧ WP I M w0 wb n q k f L w' := by
  have HW : Hid (WP I M w0 wb n q k f L w) := h
  have c0 : w.cell? ⟨(f i).pb, 0, none⟩ = some (.pointer (some (f i).x)) := by rw [cell_of_blk (h.pair hi)]; rfl
  have HG : Hid ((f i).S = (f i).T) := hg
  clear h hg
  unfold ptrV
  have HX := HW.out.xstate hi hn hp
  have HYA : Hid (∀ (L' : List Nat) (V : World), WP I M w0 wb n q k f L' V → Calls Tryz.prog 160 #[ptrV (f i).y, .int .i64 p] V fun e w' => e = .returned (.tuple #[stV (stateF (M.D (f i).j) (f i).T p).1, .int .i64 (stateF (M.D (f i).j) (f i).T p).2]) ∧ WP I M w0 wb n q k f L' w' ∧ stayB L' V w') := fun L' V hV => hV.ystate hi hn hq hp
  rw [HG.out] at HX
  generalize stateF (M.D (f i).j) (f i).T p = r at *
  unfold stV ptrV at HYA
  unfold stV at HX
  go_enter Tryz.func101, Tryz.ntmps101
  go_wp2_with fail
  refine Calls.mono HX ?_
  rintro e w1 ⟨rfl, h1, _⟩
  have HW1 : Hid (WP I M w0 wb n q k f (w1.heap.size :: L) (w1.alloc (.cells #[.bool r.1.stopped, .int .i64 r.1.faults, .int .i64 r.1.restarts] 76))) := h1.add _
  have c1 : (w1.alloc (.cells #[.bool r.1.stopped, .int .i64 r.1.faults, .int .i64 r.1.restarts] 76)).cell? ⟨(f i).pb, 1, none⟩ = some (.pointer (some ⟨(f i).y, 0, none⟩)) := by rw [cell_of_blk (HW1.out.pair hi)]; rfl
  clear h1 c0 HX
  go_wp2_with fail
  have hx := heap_new w1 (.cells #[.bool r.1.stopped, .int .i64 r.1.faults, .int .i64 r.1.restarts] 76)
  refine Calls.mono (HYA.out _ _ HW1.out) ?_
  rintro e w2 ⟨rfl, h2, hst⟩
  have hx2 := (hst _ (by simp)).trans hx
  have HW2 : Hid (WP I M w0 wb n q k f L w2) := h2.less fun c hc => by simp [hc]
  have nb := newB w2 (.cells #[.bool r.1.stopped, .int .i64 r.1.faults, .int .i64 r.1.restarts] 76)
  have hy := heap_new w2 (.cells #[.bool r.1.stopped, .int .i64 r.1.faults, .int .i64 r.1.restarts] 76)
  have hx3 := keepN hx2 nb
  have a0 : (w2.alloc (.cells #[.bool r.1.stopped, .int .i64 r.1.faults, .int .i64 r.1.restarts] 76)).cell? ⟨w1.heap.size, 0, none⟩ = some (.bool r.1.stopped) := by rw [cell_of_blk hx3]; rfl
  have a1 : (w2.alloc (.cells #[.bool r.1.stopped, .int .i64 r.1.faults, .int .i64 r.1.restarts] 76)).cell? ⟨w1.heap.size, 1, none⟩ = some (.int .i64 r.1.faults) := by rw [cell_of_blk hx3]; rfl
  have a2 : (w2.alloc (.cells #[.bool r.1.stopped, .int .i64 r.1.faults, .int .i64 r.1.restarts] 76)).cell? ⟨w1.heap.size, 2, none⟩ = some (.int .i64 r.1.restarts) := by rw [cell_of_blk hx3]; rfl
  have b0 : (w2.alloc (.cells #[.bool r.1.stopped, .int .i64 r.1.faults, .int .i64 r.1.restarts] 76)).cell? ⟨w2.heap.size, 0, none⟩ = some (.bool r.1.stopped) := by rw [cell_of_blk hy]; rfl
  have b1 : (w2.alloc (.cells #[.bool r.1.stopped, .int .i64 r.1.faults, .int .i64 r.1.restarts] 76)).cell? ⟨w2.heap.size, 1, none⟩ = some (.int .i64 r.1.faults) := by rw [cell_of_blk hy]; rfl
  have b2 : (w2.alloc (.cells #[.bool r.1.stopped, .int .i64 r.1.faults, .int .i64 r.1.restarts] 76)).cell? ⟨w2.heap.size, 2, none⟩ = some (.int .i64 r.1.restarts) := by rw [cell_of_blk hy]; rfl
  clear hx hx2 hx3 hst h2 hy HW1 c1 HYA
  go_wp2_with fail
  go_ret
  exact ⟨by simp, HW2.out.below nb⟩
end
end Go.Proofs.YteioennfpkoagaaGreatDoor.C
namespace Go.Proofs.YteioennfpkoagaaGreatDoor.C
open Go.RowKit K

section
variable {I : KerI} {M : MnS} {w0 W w w' : World} {wb n q k : Nat} {f : Nat → PRc} {tag : Nat → Nat} {rv rv' : Value} {ox oy : Nat → Nat → Prop} {L : List Nat}
theorem lw_noII {w : World} (h : w.heap[wb]? = some (.cells (lwC M rv) 110)) (hm : ∀ j, j < 2 → PartsV W (M.pv j) (M.D j).parts ∧ ChansV W (M.cv j) (M.D j).chans) (hr : ∃ a b c, rv = .slice a b c) : NoII w wb := by
  obtain ⟨⟨a0, b0, e0, _⟩, ⟨a1, b1, e1, _⟩⟩ := hm 0 (by omega)
  obtain ⟨⟨a2, b2, e2, _⟩, ⟨a3, b3, e3, _⟩⟩ := hm 1 (by omega)
  obtain ⟨a4, c4, b4, e4⟩ := hr
  unfold lwC at h
  refine noII_of h ?_ ?_ ?_ ?_ ?_
  · rw [e0]; intro x hx; cases hx
  · rw [e1]; intro x hx; cases hx
  · rw [e2]; intro x hx; cases hx
  · rw [e3]; intro x hx; cases hx
  · rw [e4]; intro x hx; cases hx
/- one more pair -/
theorem WPi.more (h : WPi I M w0 wb n q k f W tag rv ox oy L w) (hf : Frm (fun b => some b = rv.ownBlock) w w') {s1 s2 pb y j : Nat} {x : Addr} {o p : Nat → Prop} (hj : j < 2) (hs1 : w.heap.size ≤ s1) (hs2 : s1 ≤ s2)
    (hkv : I.KV w' (.pointer (some x)) (M.D j) bootK o) (ho : ∀ b, o b → w.heap.size ≤ b ∧ b < s1)
    (hrk : RKd W w' y (M.pv j) (M.cv j) (M.D j) bootK q p) (hp : ∀ b, p b → s1 ≤ b ∧ b < s2)
    (hpb : w'.heap[pb]? = some (.cells #[.pointer (some x), ptrV y] 192)) (hpl : s2 ≤ pb)
    (hrow : w'.ownsRow W.heap.size 188 1 rv' (k + 1) ((List.range k).map (fun i => ptrV (f i).pb) ++ [ptrV pb])) (hat : ∀ b, rv'.ownBlock = some b → rv.ownBlock = some b ∨ s2 ≤ b) :
    WP I M w0 wb n q (k + 1) (fun q => if q = k then ⟨pb, x, y, j, bootK, bootK⟩ else f q) [] (w'.setCell ⟨wb, 8, none⟩ rv') := by
  have hwl : wb < W.heap.size := lt_of_blk h.blk
  have hsz := h.bel.size
  have hrl : ∀ b, some b = rv.ownBlock → W.heap.size ≤ b := fun b hb => (h.row.lt b hb.symm).1
  have hbw : Below W.heap.size W w' := h.bel.trans (hf.below h.bel.size hrl)
  have hwb : w'.heap[wb]? = some (.cells (lwC M rv) 110) := (hbw.block _ hwl).trans h.blk
  have hsz' : (W.setCell ⟨wb, 8, none⟩ rv').heap.size = W.heap.size := by simp
  have hset : ∀ {v : World}, v.heap[wb]? = some (.cells (lwC M rv) 110) → (v.setCell ⟨wb, 8, none⟩ rv').heap[wb]? = some (.cells (lwC M rv') 110) := fun hv => by rw [blk_set _ _ hv]; rfl
  have hbel : Below (W.setCell ⟨wb, 8, none⟩ rv').heap.size (W.setCell ⟨wb, 8, none⟩ rv') (w'.setCell ⟨wb, 8, none⟩ rv') := by
    rw [hsz']
    refine ⟨hbw.os, hbw.tape, hbw.output, by have := hbw.size; simpa using this, fun b hb => ?_⟩
    by_cases e : b = wb
    · subst e
      rw [hset hwb, hset h.blk]
    · rw [blk_far _ _ e, blk_far _ _ e]
      exact hbw.block b hb
  have hni : NoII W wb := lw_noII (W := W) h.blk (fun j hj => ⟨(h.man j hj).1, (h.man j hj).2.1⟩) (by obtain ⟨a, c, e⟩ := own_shapeT h.row; exact ⟨a, _, c, e⟩)
  have hfar : ∀ b, b ≠ wb → b < W.heap.size → (W.setCell ⟨wb, 8, none⟩ rv').heap[b]? = W.heap[b]? := fun b hb _ => blk_far _ _ hb
  have hman : ∀ j, j < 2 → PartsV (W.setCell ⟨wb, 8, none⟩ rv') (M.pv j) (M.D j).parts ∧ ChansV (W.setCell ⟨wb, 8, none⟩ rv') (M.cv j) (M.D j).chans ∧ checkF (M.D j) = 0 := fun j hj => ⟨(h.man j hj).1.far hni hfar, (h.man j hj).2.1.far hni hfar, (h.man j hj).2.2⟩
  have hup : ∀ b, W.heap.size ≤ b → (w'.setCell ⟨wb, 8, none⟩ rv').heap[b]? = w'.heap[b]? := fun b hb => blk_far _ _ (by omega)
  refine ⟨W.setCell ⟨wb, 8, none⟩ rv', fun b => if b < w.heap.size then tag b else if b < s1 then 2 * k + 1 else if b < s2 then 2 * k + 2 else 0, rv', fun q => if q = k then o else ox q, fun q => if q = k then p else oy q, h.b0.setCell (p := ⟨wb, 8, none⟩) h.lo _, h.lo, hbel, hman, hset h.blk, ?_, fun b hb => ?_, fun i hi => ?_, fun c hc => by cases hc⟩
  · have e : (List.range (k + 1)).map (fun i => ptrV (if i = k then (⟨pb, x, y, j, bootK, bootK⟩ : PRc) else f i).pb) = (List.range k).map (fun i => ptrV (f i).pb) ++ [ptrV pb] := by
      rw [List.range_succ, List.map_append]
      congr 1
      · exact List.map_congr_left fun q hq => by rw [if_neg (by have := List.mem_range.1 hq; omega)]
      · simp
    rw [e, hsz']
    exact owns_keep hrow fun b hb => hup b (hrow.lt b hb).1
  · show (if b < w.heap.size then tag b else if b < s1 then 2 * k + 1 else if b < s2 then 2 * k + 2 else 0) = 0
    rcases hat b hb with h1 | h1
    · rw [if_pos (h.row.lt b h1).2]; exact h.tr b h1
    · rw [if_neg (by omega), if_neg (by omega), if_neg (by omega)]
  · by_cases e : i = k
    · subst e
      simp only [↓reduceIte]
      refine ⟨(hup pb (by omega)).trans hpb, by rw [hsz']; show W.heap.size ≤ pb; omega, ?_, hj, I.keep hkv fun b hb => hup b (by have := ho b hb; omega), hrk.keep hsz' hbel (hman j hj).1 (hman j hj).2.1 fun b hb => hup b (by have := hp b hb; omega), fun b hb => ?_, fun b hb => ?_, SmallK.boot.mono (Nat.zero_le _), SmallK.boot.mono (Nat.zero_le _)⟩
      · show (if pb < w.heap.size then tag pb else if pb < s1 then _ else if pb < s2 then _ else 0) = 0
        rw [if_neg (by omega), if_neg (by omega), if_neg (by omega)]
      · have := ho b hb
        rw [if_neg (by omega), if_pos this.2, hsz']
        exact ⟨rfl, by omega⟩
      · have := hp b hb
        rw [if_neg (by omega), if_neg (by omega), if_pos this.2]
    · have hik : i < k := by omega
      have hq := h.prs i hik
      simp only [if_neg e]
      have hx : ∀ b, ox i b → b < w.heap.size := I.low hq.kv
      have hy : ∀ b, oy i b → b < w.heap.size := fun b hb => (hq.rk.low b hb).2
      have hzero : ∀ b, some b = rv.ownBlock → tag b = 0 := fun b hb => h.tr b hb.symm
      refine ⟨(hup _ hq.lo).trans ((hf.block _ (lt_of_blk hq.blk) (own_not_blk h.row hq.blk (by decide))).trans hq.blk), by rw [hsz']; exact hq.lo, by rw [if_pos (lt_of_blk hq.blk)]; exact hq.tp, hq.jlt, I.keep hq.kv fun b hb => (hup b (hq.tx b hb).2).trans (hf.block b (hx b hb) fun e2 => ?_), hq.rk.keep hsz' hbel (hman _ hq.jlt).1 (hman _ hq.jlt).2.1 fun b hb => (hup b (hq.rk.low b hb).1).trans (hf.block b (hy b hb) fun e2 => ?_), fun b hb => ?_, fun b hb => ?_, hq.ss, hq.st⟩
      · have h1 := (hq.tx b hb).1
        have h2 := hzero b e2
        omega
      · have h1 := hq.ty b hb
        have h2 := hzero b e2
        omega
      · rw [if_pos (hx b hb), hsz']; exact hq.tx b hb
      · rw [if_pos (hy b hb)]; exact hq.ty b hb
end
end Go.Proofs.YteioennfpkoagaaGreatDoor.C
namespace Go.Proofs.YteioennfpkoagaaGreatDoor.C
open Go.RowKit K
attribute [local go_sem ↓] Go.wp_at_zero Go.wp_at_succ

def AllG (k : Nat) (f : Nat → PRc) : Prop := ∀ q, q < k → (f q).S = (f q).T
theorem AllG.set {k : Nat} {f : Nat → PRc} (h : AllG k f) (i : Nat) (X : KS) : AllG k (setT (setS f i X) i X) := fun q hq => by
  by_cases e : q = i
  · subst e
    rw [setT_S, setS_S, setT_T]
  · rw [setT_ne _ _ _ _ e, setS_ne _ _ _ _ e]
    exact h q hq
section
variable {I : KerI} {M : MnS} {w0 w : World} {wb n q k i : Nat} {f : Nat → PRc} {L : List Nat}
set_option maxRecDepth 100000 in
set_option maxHeartbeats 4000000 in
theorem moves_read (h : WP I M w0 wb n q k f L w) (hi : i < k) (hg : AllG k f) (hn : n ≤ 3999999999999999990) (hq : q ≤ 4398046511000) (ki kr p a b tk : Int) (t : ByteArray) (hp : inR p) (ha : inR a) (hb : inR b) (ht : t.size ≤ 9223372036854775807) (hk : ki = 4) :
    Calls Tryz.prog 102 #[ptrV (f i).pb, .agg (opC ⟨ki, kr, p, a, b, t, tk⟩)] w fun e w' => e = .returned (.bool true) ∧ ∃ f', WP I M w0 wb (n + 2) (q + 1) k f' L w' ∧ AllG k f' := by
  have HW : Hid (WP I M w0 wb n q k f L w) := h
  have HP : Hid (inR p ∧ inR a ∧ inR b ∧ t.size ≤ 9223372036854775807) := ⟨hp, ha, hb, ht⟩
  have HGI : Hid ((f i).S = (f i).T) := hg i hi
  clear h hp ha hb ht
  subst hk
  unfold ptrV opC
  go_enter Tryz.func102, Tryz.ntmps102
  have bo := newB w (.cells #[.int .i64 4, .int .i64 kr, .int .i64 p, .int .i64 a, .int .i64 b, .string t, .int .i64 tk] 117)
  have ho := heap_new w (.cells #[.int .i64 4, .int .i64 kr, .int .i64 p, .int .i64 a, .int .i64 b, .string t, .int .i64 tk] 117)
  have HW0 : Hid (WP I M w0 wb n q k f (w.heap.size :: L) (w.alloc (.cells #[.int .i64 4, .int .i64 kr, .int .i64 p, .int .i64 a, .int .i64 b, .string t, .int .i64 tk] 117))) := HW.out.add _
  have c0 : (w.alloc (.cells #[.int .i64 4, .int .i64 kr, .int .i64 p, .int .i64 a, .int .i64 b, .string t, .int .i64 tk] 117)).cell? ⟨(f i).pb, 0, none⟩ = some (.pointer (some (f i).x)) := by rw [cell_of_blk (HW0.out.pair hi)]; rfl
  have HX := ((HW0.out.below ((Below.refl _ _).drew)).xread hi (by omega) HP.out.1 HP.out.2.1)
  have q2 : (w.alloc (.cells #[.int .i64 4, .int .i64 kr, .int .i64 p, .int .i64 a, .int .i64 b, .string t, .int .i64 tk] 117)).cell? ⟨w.heap.size, 2, none⟩ = some (.int .i64 p) := by rw [cell_of_blk ho]; rfl
  have q3 : (w.alloc (.cells #[.int .i64 4, .int .i64 kr, .int .i64 p, .int .i64 a, .int .i64 b, .string t, .int .i64 tk] 117)).cell? ⟨w.heap.size, 3, none⟩ = some (.int .i64 a) := by rw [cell_of_blk ho]; rfl
  have q4 : (w.alloc (.cells #[.int .i64 4, .int .i64 kr, .int .i64 p, .int .i64 a, .int .i64 b, .string t, .int .i64 tk] 117)).cell? ⟨w.heap.size, 4, none⟩ = some (.int .i64 b) := by rw [cell_of_blk ho]; rfl
  have q5 : (w.alloc (.cells #[.int .i64 4, .int .i64 kr, .int .i64 p, .int .i64 a, .int .i64 b, .string t, .int .i64 tk] 117)).cell? ⟨w.heap.size, 5, none⟩ = some (.string t) := by rw [cell_of_blk ho]; rfl
  go_wp2_with fail
  clear bo
  generalize hV : w.alloc (.cells #[.int .i64 4, .int .i64 kr, .int .i64 p, .int .i64 a, .int .i64 b, .string t, .int .i64 tk] 117) = V at *
  go_region_law (go_simp; go_at_call 29; refine Calls.mono HX ?_; rintro e w1 ⟨rfl, h1, hst1⟩; have HW1 : Hid _ := h1; have HS1 : Hid _ := hst1; clear h1 hst1)
  all_goals
    have c1 : w1.cell? ⟨(f i).pb, 1, none⟩ = some (.pointer (some ⟨(f i).y, 0, none⟩)) := by
      have := HW1.out.pair hi
      simp only [setS_pb, setS_x, setS_y] at this
      rw [cell_of_blk this]; rfl
    have ho1 := (HS1.out _ (by simp)).trans ho
    have o2 : w1.cell? ⟨w.heap.size, 2, none⟩ = some (.int .i64 p) := by rw [cell_of_blk ho1]; rfl
    have o3 : w1.cell? ⟨w.heap.size, 3, none⟩ = some (.int .i64 a) := by rw [cell_of_blk ho1]; rfl
    have o4 : w1.cell? ⟨w.heap.size, 4, none⟩ = some (.int .i64 b) := by rw [cell_of_blk ho1]; rfl
    have o5 : w1.cell? ⟨w.heap.size, 5, none⟩ = some (.string t) := by rw [cell_of_blk ho1]; rfl
    clear c0 q2 q3 q4 q5 ho1 HX
    have HY := ((HW1.out.below ((Below.refl _ _).drew)).yread hi (by omega) hq HP.out.1 HP.out.2.1)
    simp only [setS_y, setS_T, setS_j] at HY
    rw [← HGI.out] at HY
    unfold ptrV at HY
    go_wp2_with fail
    go_region_law (go_simp; go_at_call 161; refine Calls.mono HY ?_; rintro e w2 ⟨rfl, h2, _⟩; have HW2 : Hid _ := h2; clear h2)
    all_goals
      clear HY HW1 HW0
      have HF : Hid (AllG k (setT (setS f i (readF (M.D (f i).j) (f i).S p a).2.2) i (readF (M.D (f i).j) (f i).S p a).2.2)) := AllG.set hg i _
      generalize readF (M.D (f i).j) (f i).S p a = r at *
      go_wp2_with fail
      go_ret
      exact ⟨by simp, _, HW2.out.less fun c hc => by simp [hc], HF.out⟩
end
end Go.Proofs.YteioennfpkoagaaGreatDoor.C
