import Derived.Test.YteioennfpkoagaaGreatDoorG06
import Derived.Test.YteioennfpkoagaaGreatDoorG01
import Derived.Handy
namespace Go.Proofs.YteioennfpkoagaaGreatDoor
open Go.RowKit
attribute [local go_sem ↓] Go.wp_at_zero Go.wp_at_succ

/- N tokens of a text lie in block g. -/
def TokB (w : World) (g N : Nat) (l : List UInt8) : Prop :=
  ∃ cur, w.heap[g]? = some (.cells cur 164 (0, 0)) ∧ ∀ k, k < N → cur[k * 4]? = some (.int .i64 (tk l k).sort) ∧ cur[k * 4 + 1]? = some (.string ⟨(tk l k).text.toArray⟩) ∧ cur[k * 4 + 2]? = some (.int .i64 (tk l k).line) ∧ cur[k * 4 + 3]? = some (.int .i64 (tk l k).col)
def rdCells (g N cap : Nat) (r : RS) : Array Value := #[.slice (some ⟨g, 0, none⟩) N cap, .int .i64 r.at', .int .i64 r.e, .int .i64 r.ln, .int .i64 r.cl]
/- The reader lies in block b, in the state r. -/
structure RdOK (w : World) (b g N cap : Nat) (l : List UInt8) (r : RS) : Prop where
  blk : w.heap[b]? = some (.cells (rdCells g N cap r) 160 (0, 0))
  toks : TokB w g N l
  ne : g ≠ b
  lt : r.at' < N

theorem grown_drewN (w : World) (n : Nat) (row : Option Nat) : w.grownBy (w.drewN n) row := ⟨rfl, rfl, rfl, Nat.le_refl _, fun _ _ _ => rfl⟩
theorem grown_refl (w : World) (row : Option Nat) : w.grownBy w row := ⟨rfl, rfl, rfl, Nat.le_refl _, fun _ _ _ => rfl⟩
theorem grown_trans {a b c : World} {row : Option Nat} (h : a.grownBy b row) (k : b.grownBy c row) : a.grownBy c row :=
  ⟨k.os.trans h.os, k.tape.trans h.tape, k.output.trans h.output, Nat.le_trans h.size k.size, fun i hi hne => (k.block i (Nat.lt_of_lt_of_le hi h.size) hne).trans (h.block i hi hne)⟩
theorem grown_below {a b : World} (h : Below a.heap.size a b) (row : Option Nat) : a.grownBy b row := ⟨h.os, h.tape, h.output, h.size, fun k hk _ => h.block k hk⟩
theorem grown_set (w : World) (b i : Nat) (v : Value) : w.grownBy (w.setCell ⟨b, i, none⟩ v) (some b) :=
  ⟨rfl, rfl, rfl, by simp [World.setCell], fun k _ hne => Below.heap_setCell _ _ _ _ (by intro h; apply hne; rw [h])⟩
theorem lt_of_blk {w : World} {b : Nat} {o : Obj} (h : w.heap[b]? = some o) : b < w.heap.size := by
  rcases Nat.lt_or_ge b w.heap.size with h' | h'
  · exact h'
  · rw [Array.getElem?_eq_none h'] at h; cases h
theorem TokB.kept {w w' : World} {g N : Nat} {l : List UInt8} (h : TokB w g N l) {row : Option Nat} (hg : w.grownBy w' row) (hne : some g ≠ row) : TokB w' g N l := by
  obtain ⟨cur, h1, h2⟩ := h
  exact ⟨cur, by rw [hg.block g (lt_of_blk h1) hne]; exact h1, h2⟩
/- the reader stands as it did where other blocks were made or written -/
theorem RdOK.kept {w w' : World} {b g N cap : Nat} {l : List UInt8} {r : RS} (h : RdOK w b g N cap l r) {row : Option Nat} (hg : w.grownBy w' row) (h1 : some b ≠ row) (h2 : some g ≠ row) : RdOK w' b g N cap l r :=
  ⟨by rw [hg.block b (lt_of_blk h.blk) h1]; exact h.blk, h.toks.kept hg h2, h.ne, h.lt⟩
theorem cell_of_blk {w : World} {b i : Nat} {cs : Array Value} {t : TypeId} {fr : Nat × Nat} (h : w.heap[b]? = some (.cells cs t fr)) : w.cell? ⟨b, i, none⟩ = cs[i]? := by
  simp [World.cell?, h]
theorem frozen_of_blk {w : World} {b i : Nat} {cs : Array Value} {t : TypeId} (h : w.heap[b]? = some (.cells cs t (0, 0))) : w.frozen? ⟨b, i, none⟩ = false := by
  simp [World.frozen?, h]
theorem RdOK.c0 {w : World} {b g N cap : Nat} {l : List UInt8} {r : RS} (h : RdOK w b g N cap l r) : w.cell? ⟨b, 0, none⟩ = some (.slice (some ⟨g, 0, none⟩) N cap) := by rw [cell_of_blk h.blk]; rfl
theorem RdOK.c1 {w : World} {b g N cap : Nat} {l : List UInt8} {r : RS} (h : RdOK w b g N cap l r) : w.cell? ⟨b, 1, none⟩ = some (.int .i64 r.at') := by rw [cell_of_blk h.blk]; rfl
theorem RdOK.c2 {w : World} {b g N cap : Nat} {l : List UInt8} {r : RS} (h : RdOK w b g N cap l r) : w.cell? ⟨b, 2, none⟩ = some (.int .i64 r.e) := by rw [cell_of_blk h.blk]; rfl
theorem RdOK.c3 {w : World} {b g N cap : Nat} {l : List UInt8} {r : RS} (h : RdOK w b g N cap l r) : w.cell? ⟨b, 3, none⟩ = some (.int .i64 r.ln) := by rw [cell_of_blk h.blk]; rfl
theorem RdOK.c4 {w : World} {b g N cap : Nat} {l : List UInt8} {r : RS} (h : RdOK w b g N cap l r) : w.cell? ⟨b, 4, none⟩ = some (.int .i64 r.cl) := by rw [cell_of_blk h.blk]; rfl
theorem RdOK.fz {w : World} {b g N cap : Nat} {l : List UInt8} {r : RS} (h : RdOK w b g N cap l r) (i : Nat) : w.frozen? ⟨b, i, none⟩ = false := frozen_of_blk h.blk
theorem RdOK.t0 {w : World} {b g N cap : Nat} {l : List UInt8} {r : RS} (h : RdOK w b g N cap l r) : w.cell? ⟨g, r.at' * 4, none⟩ = some (.int .i64 (tk l r.at').sort) := by
  obtain ⟨cur, h1, h2⟩ := h.toks; rw [cell_of_blk h1]; exact (h2 _ h.lt).1
theorem RdOK.t1 {w : World} {b g N cap : Nat} {l : List UInt8} {r : RS} (h : RdOK w b g N cap l r) : w.cell? ⟨g, r.at' * 4 + 1, none⟩ = some (.string ⟨(tk l r.at').text.toArray⟩) := by
  obtain ⟨cur, h1, h2⟩ := h.toks; rw [cell_of_blk h1]; exact (h2 _ h.lt).2.1
theorem RdOK.t2 {w : World} {b g N cap : Nat} {l : List UInt8} {r : RS} (h : RdOK w b g N cap l r) : w.cell? ⟨g, r.at' * 4 + 2, none⟩ = some (.int .i64 (tk l r.at').line) := by
  obtain ⟨cur, h1, h2⟩ := h.toks; rw [cell_of_blk h1]; exact (h2 _ h.lt).2.2.1
theorem RdOK.t3 {w : World} {b g N cap : Nat} {l : List UInt8} {r : RS} (h : RdOK w b g N cap l r) : w.cell? ⟨g, r.at' * 4 + 3, none⟩ = some (.int .i64 (tk l r.at').col) := by
  obtain ⟨cur, h1, h2⟩ := h.toks; rw [cell_of_blk h1]; exact (h2 _ h.lt).2.2.2

theorem str_eq (s : ByteArray) (tt : List UInt8) : (tt == s.toList) = decide (tt = s.data.toList) := by
  rw [ByteArray.toList_eq, Bool.eq_iff_iff]; simp

set_option maxRecDepth 100000 in
set_option maxHeartbeats 400000 in
theorem is_any (w : World) (b g N cap : Nat) (l : List UInt8) (r : RS) (s : ByteArray) (h : RdOK w b g N cap l r) :
    Calls Tryz.prog 81 #[.pointer (some ⟨b, 0, none⟩), .string s] w fun e w' => e = .returned (.bool (isR l r s.data.toList)) ∧ ∃ q, w' = w.drewN q := by
  have c0 := h.c0
  have c1 := h.c1
  have c2 := h.c2
  have t0 := h.t0
  have t1 := h.t1
  have hl : (r.at' : Int) < (N : Int) := by have := h.lt; omega
  have h0 : (0 : Int) ≤ (r.at' : Int) := by omega
  have HI : Hid (decide (r.e = 0 ∧ (tk l r.at').sort ≠ 0 ∧ (tk l r.at').text = s.data.toList) = isR l r s.data.toList) := rfl
  generalize isR l r s.data.toList = q at *
  obtain ⟨at1, e1, ln1, cl1⟩ := r
  simp only [] at *
  generalize tk l at1 = t at *
  obtain ⟨ts, tt, tl, tc⟩ := t
  simp only [] at *
  clear h
  by_cases he : e1 = 0
  · subst he
    by_cases hz : ts = 0
    · subst hz
      have hb : q = false := by rw [← HI.out]; simp
      subst hb
      clear HI
      go_enter Tryz.func81, Tryz.ntmps81
      go_wp2_with fail
      go_quiet (fail)
      go_wp2
      go_ret
      exact ⟨rfl, _, rfl⟩
    · have hz1 : ((ts : Int) != 0) = true := by simp; omega
      have hb : q = (tt == s.toList) := by rw [← HI.out, str_eq]; simp [hz]
      subst hb
      clear HI hz
      go_enter Tryz.func81, Tryz.ntmps81
      go_wp2_with fail
      go_quiet (fail)
      go_wp2
      go_ret
      exact ⟨rfl, _, rfl⟩
  · have hz1 : ((e1 : Int) == 0) = false := by simp; omega
    have hb : q = false := by rw [← HI.out]; simp [he]
    subst hb
    clear HI he
    go_enter Tryz.func81, Tryz.ntmps81
    go_wp2_with fail
    go_quiet (fail)
    go_wp2
    go_ret
    exact ⟨rfl, _, rfl⟩

theorem looks_tok (t : Tok) (ln cl : Int) (w : World) (hs : t.text.length ≤ 8192) :
    Calls Tryz.prog 135 #[.agg #[.int .i64 t.sort, .string ⟨t.text.toArray⟩, .int .i64 ln, .int .i64 cl]] w fun e w' => e = .returned (.int .i64 (looksF t.sort t.text)) ∧ Below w.heap.size w w' :=
  looks_any t.sort ⟨t.text.toArray⟩ ln cl w (by show t.text.toArray.size ≤ _; simpa using hs)

theorem rd_set {w : World} {b g N cap : Nat} {r : RS} (i : Nat) (v : Value) (h : w.heap[b]? = some (.cells (rdCells g N cap r) 160 (0, 0))) :
    (w.setCell ⟨b, i, none⟩ v).heap[b]? = some (.cells ((rdCells g N cap r).setIfInBounds i v) 160 (0, 0)) := by
  simp [World.setCell, Array.getElem?_modify, h]

theorem RdOK.setE {w : World} {b g N cap : Nat} {l : List UInt8} {r : RS} (h : RdOK w b g N cap l r) (e : Nat) : RdOK (w.setCell ⟨b, 2, none⟩ (.int .i64 e)) b g N cap l ⟨r.at', e, r.ln, r.cl⟩ :=
  ⟨by rw [rd_set 2 _ h.blk]; rfl, h.toks.kept (grown_set w b 2 _) (by simp [h.ne]), h.ne, h.lt⟩
theorem RdOK.setLn {w : World} {b g N cap : Nat} {l : List UInt8} {r : RS} (h : RdOK w b g N cap l r) (x : Int) : RdOK (w.setCell ⟨b, 3, none⟩ (.int .i64 x)) b g N cap l ⟨r.at', r.e, x, r.cl⟩ :=
  ⟨by rw [rd_set 3 _ h.blk]; rfl, h.toks.kept (grown_set w b 3 _) (by simp [h.ne]), h.ne, h.lt⟩
theorem RdOK.setCl {w : World} {b g N cap : Nat} {l : List UInt8} {r : RS} (h : RdOK w b g N cap l r) (x : Int) : RdOK (w.setCell ⟨b, 4, none⟩ (.int .i64 x)) b g N cap l ⟨r.at', r.e, r.ln, x⟩ :=
  ⟨by rw [rd_set 4 _ h.blk]; rfl, h.toks.kept (grown_set w b 4 _) (by simp [h.ne]), h.ne, h.lt⟩
theorem RdOK.setAt {w : World} {b g N cap : Nat} {l : List UInt8} {r : RS} (h : RdOK w b g N cap l r) (k : Nat) (hk : k < N) : RdOK (w.setCell ⟨b, 1, none⟩ (.int .i64 k)) b g N cap l ⟨k, r.e, r.ln, r.cl⟩ :=
  ⟨by rw [rd_set 1 _ h.blk]; rfl, h.toks.kept (grown_set w b 1 _) (by simp [h.ne]), h.ne, hk⟩
theorem RdOK.drewN {w : World} {b g N cap : Nat} {l : List UInt8} {r : RS} (h : RdOK w b g N cap l r) (q : Nat) : RdOK (w.drewN q) b g N cap l r := ⟨h.blk, h.toks, h.ne, h.lt⟩

set_option maxRecDepth 100000 in
set_option maxHeartbeats 400000 in
theorem fail_dead (w : World) (b g N cap : Nat) (l : List UInt8) (r : RS) (er : Int) (h : RdOK w b g N cap l r) (he : r.e ≠ 0) :
    Calls Tryz.prog 84 #[.pointer (some ⟨b, 0, none⟩), .int .i64 er] w fun e w' => e = .returned (.tuple #[]) ∧ w' = w := by
  have c2 := h.c2
  have hz1 : ((r.e : Int) != 0) = true := by simp; omega
  go_enter Tryz.func84, Tryz.ntmps84
  go_wp2_with fail
  go_returns
  exact ⟨rfl, rfl⟩

set_option maxRecDepth 100000 in
set_option maxHeartbeats 400000 in
theorem fail_live (w : World) (b g N cap : Nat) (l : List UInt8) (r : RS) (er : Nat) (h : RdOK w b g N cap l r) (he : r.e = 0) (hlen : l.length ≤ 8192) :
    Calls Tryz.prog 84 #[.pointer (some ⟨b, 0, none⟩), .int .i64 er] w fun e w' => e = .returned (.tuple #[]) ∧ RdOK w' b g N cap l (failR l r er) ∧ w.grownBy w' (some b) := by
  have c0 := h.c0
  have c1 := h.c1
  have c2 := h.c2
  have f2 := h.fz 2
  have f3 := h.fz 3
  have f4 := h.fz 4
  have t0 := h.t0
  have t1 := h.t1
  have t2 := h.t2
  have t3 := h.t3
  have hl : (r.at' : Int) < (N : Int) := by have := h.lt; omega
  have h0 : (0 : Int) ≤ (r.at' : Int) := by omega
  have hx : (tk l r.at').text.length ≤ 8192 := Nat.le_trans (tk_len _ _) hlen
  have HK : Hid (lk l r.at' = looksF (tk l r.at').sort (tk l r.at').text) := rfl
  have hz1 : ((r.e : Int) != 0) = false := by simp; omega
  have HF : Hid (failR l r er = ⟨r.at', if lk l r.at' ≠ 0 then lk l r.at' else er, (tk l r.at').line, (tk l r.at').col⟩) := by unfold failR; rw [if_neg (by simp [he])]; exact rfl
  have hgb : g ≠ b := h.ne
  go_enter Tryz.func84, Tryz.ntmps84
  go_wp2_with fail
  go_region_held3 (fun w' => w'.cell? ⟨b, 0, none⟩ = some (.slice (some ⟨g, 0, none⟩) N cap) ∧ w'.cell? ⟨b, 1, none⟩ = some (.int .i64 r.at') ∧ w'.cell? ⟨g, r.at' * 4, none⟩ = some (.int .i64 (tk l r.at').sort) ∧ w'.cell? ⟨g, r.at' * 4 + 1, none⟩ = some (.string ⟨(tk l r.at').text.toArray⟩) ∧ w'.cell? ⟨g, r.at' * 4 + 2, none⟩ = some (.int .i64 (tk l r.at').line) ∧ w'.cell? ⟨g, r.at' * 4 + 3, none⟩ = some (.int .i64 (tk l r.at').col)) (first | go_keep | exact ⟨hr2.c0, hr2.c1, hr2.t0, hr2.t1, hr2.t2, hr2.t3⟩) ((first
    | (go_at_call 135; refine (looks_tok (tk l r.at') _ _ _ hx).mono ?_; rintro e w2 ⟨rfl, hb2⟩; have hr2 : RdOK w2 b g N cap l r := h.kept (grown_below (below_drew hb2) none) (by simp) (by simp))))
  clear c0 c1 c2 t0 t1 t2 t3 f2 f3 f4
  have hg2 : w.grownBy w2 (some b) := grown_below (below_drew hb2) _
  have c0 := hr2.c0
  have c1 := hr2.c1
  have c2 := hr2.c2
  have f2 := hr2.fz 2
  have f3 := hr2.fz 3
  have f4 := hr2.fz 4
  have t0 := hr2.t0
  have t2 := hr2.t2
  have t3 := hr2.t3
  rw [← HK.out]
  have hfin : ∀ (W : World) (ev : Nat), RdOK W b g N cap l ⟨r.at', ev, r.ln, r.cl⟩ → w.grownBy W (some b) → ev = (if lk l r.at' ≠ 0 then lk l r.at' else er) → RdOK (((W.setCell ⟨b, 3, none⟩ (.int .i64 (tk l r.at').line)).setCell ⟨b, 4, none⟩ (.int .i64 (tk l r.at').col)).drew) b g N cap l (failR l r er) ∧ w.grownBy (((W.setCell ⟨b, 3, none⟩ (.int .i64 (tk l r.at').line)).setCell ⟨b, 4, none⟩ (.int .i64 (tk l r.at').col)).drew) (some b) := by
    intro W ev hW hg he
    subst he
    rw [HF.out]
    exact ⟨((hW.setLn _).setCl _).drewN 1, grown_trans (grown_trans (grown_trans hg (grown_set _ _ _ _)) (grown_set _ _ _ _)) (grown_drewN _ 1 _)⟩
  have HFIN : Hid _ := hfin
  clear hfin
  by_cases hz : lk l r.at' = 0
  · rw [hz]
    go_wp2_with fail
    have hr3 := hr2.setE er
    have hg3 := grown_trans hg2 (grown_set w2 b 2 (.int .i64 er))
    generalize w2.setCell ⟨b, 2, none⟩ (.int .i64 er) = W at *
    clear c0 c1 c2 t0 t2 t3 f2 f3 f4 hr2 hg2 hb2 h
    have c0 := hr3.c0
    have c1 := hr3.c1
    have c3 := hr3.c3
    have c4 := hr3.c4
    have f3 := hr3.fz 3
    have f4 := hr3.fz 4
    have t2 := hr3.t2
    have t3 := hr3.t3
    simp only [] at c1 t2 t3
    go_region
    go_returns
    exact ⟨rfl, HFIN.out W _ hr3 hg3 (by simp [hz])⟩
  · have hz2 : ((lk l r.at' : Int) != 0) = true := by simp; omega
    go_wp2_with fail
    have hr3 := hr2.setE (lk l r.at')
    have hg3 := grown_trans hg2 (grown_set w2 b 2 (.int .i64 (lk l r.at')))
    generalize w2.setCell ⟨b, 2, none⟩ (.int .i64 (lk l r.at')) = W at *
    clear c0 c1 c2 t0 t2 t3 f2 f3 f4 hr2 hg2 hb2 h
    have c0 := hr3.c0
    have c1 := hr3.c1
    have c3 := hr3.c3
    have c4 := hr3.c4
    have f3 := hr3.fz 3
    have f4 := hr3.fz 4
    have t2 := hr3.t2
    have t3 := hr3.t3
    simp only [] at c1 t2 t3
    go_region
    go_returns
    exact ⟨rfl, HFIN.out W _ hr3 hg3 (by simp [hz])⟩

theorem fail_any (w : World) (b g N cap : Nat) (l : List UInt8) (r : RS) (er : Nat) (h : RdOK w b g N cap l r) (hlen : l.length ≤ 8192) :
    Calls Tryz.prog 84 #[.pointer (some ⟨b, 0, none⟩), .int .i64 er] w fun e w' => e = .returned (.tuple #[]) ∧ RdOK w' b g N cap l (failR l r er) ∧ w.grownBy w' (some b) := by
  by_cases he : r.e = 0
  · exact fail_live w b g N cap l r er h he hlen
  · refine (fail_dead w b g N cap l r er h he).mono ?_
    rintro e w' ⟨rfl, rfl⟩
    refine ⟨rfl, ?_, grown_refl _ _⟩
    unfold failR; rw [if_pos he]; exact h
end Go.Proofs.YteioennfpkoagaaGreatDoor
namespace Go.Proofs.YteioennfpkoagaaGreatDoor
open Go.RowKit
attribute [local go_sem ↓] Go.wp_at_zero Go.wp_at_succ

theorem RdOK.next {w : World} {b g N cap : Nat} {l : List UInt8} {r : RS} (h : RdOK w b g N cap l r) (hn : pos l (N - 1) = l.length) (hs : (tk l r.at').sort ≠ 0) : r.at' + 1 < N := by
  have := tk_lt l (N - 1) r.at' hn (by have := h.lt; omega) hs
  omega
theorem ret_str {a b : ByteArray} (h : a = b) : Ending.returned (.string a) = .returned (.string b) := by rw [h]

set_option maxRecDepth 100000 in
set_option maxHeartbeats 400000 in
theorem some_dead (w : World) (b g N cap : Nat) (l : List UInt8) (r : RS) (st : Int) (h : RdOK w b g N cap l r) (he : r.e ≠ 0) :
    Calls Tryz.prog 131 #[.pointer (some ⟨b, 0, none⟩), .int .i64 st] w fun e w' => e = .returned (.string ⟨#[]⟩) ∧ w' = w := by
  have c2 := h.c2
  have hz1 : ((r.e : Int) != 0) = true := by simp; omega
  go_enter Tryz.func131, Tryz.ntmps131
  go_wp2_with fail
  go_ret
  exact ⟨rfl, rfl⟩

set_option maxRecDepth 100000 in
set_option maxHeartbeats 400000 in
theorem some_live (w : World) (b g N cap : Nat) (l : List UInt8) (r : RS) (st : Nat) (h : RdOK w b g N cap l r) (he : r.e = 0) (hlen : l.length ≤ 8192) (hn : pos l (N - 1) = l.length) (h1 : 1 ≤ st) (hN : N ≤ 8193) :
    Calls Tryz.prog 131 #[.pointer (some ⟨b, 0, none⟩), .int .i64 st] w fun e w' => e = .returned (.string ⟨(someR l r st).1.toArray⟩) ∧ RdOK w' b g N cap l (someR l r st).2 ∧ w.grownBy w' (some b) := by
  have c0 := h.c0
  have c1 := h.c1
  have c2 := h.c2
  have t0 := h.t0
  have t1 := h.t1
  have t2 := h.t2
  have t3 := h.t3
  have hbs := lt_of_blk h.blk
  have hgs : g < w.heap.size := by obtain ⟨cur, hc, _⟩ := h.toks; exact lt_of_blk hc
  have hl : (r.at' : Int) < (N : Int) := by have := h.lt; omega
  have h0 : (0 : Int) ≤ (r.at' : Int) := by omega
  have hx : (tk l r.at').text.length ≤ 8192 := Nat.le_trans (tk_len _ _) hlen
  have hz1 : ((r.e : Int) != 0) = false := by simp; omega
  go_enter Tryz.func131, Tryz.ntmps131
  go_wp2_with fail
  go_region
  go_wp2_with fail
  refine (looks_tok (tk l r.at') _ _ _ hx).mono ?_
  rintro e w2 ⟨rfl, hb2⟩
  have hg2 : w.grownBy w2 (some b) := grown_trans (grown_drewN w 1 _) (grown_trans (grown_below ((Below.refl _ _).alloc (Nat.le_refl _) _) _) (grown_below hb2 _))
  have hr2 : RdOK w2 b g N cap l r := (h.kept (grown_trans (grown_drewN w 1 none) (grown_trans (grown_below ((Below.refl _ _).alloc (Nat.le_refl _) _) _) (grown_below hb2 _))) (by simp) (by simp))
  have x0 : w2.cell? ⟨w.heap.size, 0, none⟩ = some (.int .i64 (tk l r.at').sort) := by rw [hb2.cell (by simp)]; simp
  have x1 : w2.cell? ⟨w.heap.size, 1, none⟩ = some (.string ⟨(tk l r.at').text.toArray⟩) := by rw [hb2.cell (by simp)]; simp
  have HK : Hid (lk l r.at' = looksF (tk l r.at').sort (tk l r.at').text) := rfl
  rw [← HK.out]
  have HS : Hid (someR l r st = if (tk l r.at').sort ≠ st ∨ lk l r.at' ≠ 0 then ([], failR l r 1) else ((tk l r.at').text, nextR r)) := by unfold someR; rw [if_neg (by simp [he])]; exact rfl
  have HNX := hr2.next hn
  clear c0 c1 c2 t0 t1 t2 t3 hb2
  have c1 := hr2.c1
  have f1 := hr2.fz 1
  by_cases hc : (tk l r.at').sort ≠ st ∨ lk l r.at' ≠ 0
  · have HC : Hid _ := hc
    have hcase : (((tk l r.at').sort : Int) != (st : Int)) = true ∨ (((tk l r.at').sort : Int) != (st : Int)) = false ∧ ((lk l r.at' : Int) != 0) = true := by
      rcases hc with hc | hc
      · left; simp; omega
      · by_cases h2 : (tk l r.at').sort = st
        · right; exact ⟨by simp; omega, by simp; omega⟩
        · left; simp; omega
    clear hc
    rcases hcase with q1 | ⟨q1, q2⟩
    all_goals
      go_wp2_with fail
      refine (fail_any _ b g N cap l r 1 hr2 hlen).mono ?_
      rintro e w3 ⟨rfl, hr3, hg3⟩
      go_wp2_with fail
      go_ret
      rw [HS.out, if_pos HC.out]
      exact ⟨ret_str rfl, hr3, grown_trans hg2 hg3⟩
  · have HC : Hid _ := hc
    have q1 : (((tk l r.at').sort : Int) != (st : Int)) = false := by simp; omega
    have q2 : ((lk l r.at' : Int) != 0) = false := by simp; omega
    have hat : r.at' + 1 < N := HNX (by omega)
    clear hc
    go_wp2_with fail
    go_ret
    rw [HS.out, if_neg HC.out]
    exact ⟨ret_str rfl, hr2.setAt (r.at' + 1) hat, grown_trans hg2 (grown_set _ _ _ _)⟩

theorem some_any (w : World) (b g N cap : Nat) (l : List UInt8) (r : RS) (st : Nat) (h : RdOK w b g N cap l r) (hlen : l.length ≤ 8192) (hn : pos l (N - 1) = l.length) (h1 : 1 ≤ st) (hN : N ≤ 8193) :
    Calls Tryz.prog 131 #[.pointer (some ⟨b, 0, none⟩), .int .i64 st] w fun e w' => e = .returned (.string ⟨(someR l r st).1.toArray⟩) ∧ RdOK w' b g N cap l (someR l r st).2 ∧ w.grownBy w' (some b) := by
  by_cases he : r.e = 0
  · exact some_live w b g N cap l r st h he hlen hn h1 hN
  · refine (some_dead w b g N cap l r st h he).mono ?_
    rintro e w' ⟨rfl, rfl⟩
    have : someR l r st = ([], r) := by unfold someR; rw [if_pos he]
    rw [this]
    exact ⟨rfl, h, grown_refl _ _⟩

theorem some_number_len (l : List UInt8) (r : RS) : (someR l r 2).1.length ≤ 6 := by
  unfold someR
  split; · simp
  split; · simp
  rename_i hc
  have h1 : (tk l r.at').sort = 2 := by omega
  have h2 : lk l r.at' = 0 := by omega
  unfold lk looksF at h2
  rw [h1] at h2
  simp only [Nat.reduceEqDiff, false_and, if_false, ne_eq, not_true_eq_false] at h2
  split at h2
  · omega
  · simp only []; omega

set_option maxRecDepth 100000 in
set_option maxHeartbeats 400000 in
theorem number_any (w : World) (b g N cap : Nat) (l : List UInt8) (r : RS) (h : RdOK w b g N cap l r) (hlen : l.length ≤ 8192) (hn : pos l (N - 1) = l.length) (hN : N ≤ 8193) :
    Calls Tryz.prog 80 #[.pointer (some ⟨b, 0, none⟩)] w fun e w' => e = .returned (.int .i64 (numberR l r).1) ∧ RdOK w' b g N cap l (numberR l r).2 ∧ w.grownBy w' (some b) := by
  have hx := some_number_len l r
  unfold numberR
  go_enter Tryz.func80, Tryz.ntmps80
  go_wp2_with fail
  refine (some_any _ b g N cap l r 2 h hlen hn (by omega) hN).mono ?_
  rintro e w2 ⟨rfl, hr2, hg2⟩
  go_wp2_with fail
  refine (value_any _ _ (by show Array.size _ ≤ 6; simpa using hx)).mono ?_
  rintro e w3 ⟨rfl, rfl⟩
  go_wp2_with fail
  go_ret
  exact ⟨rfl, hr2, hg2⟩
end Go.Proofs.YteioennfpkoagaaGreatDoor
namespace Go.Proofs.YteioennfpkoagaaGreatDoor
open Go.RowKit
attribute [local go_sem ↓] Go.wp_at_zero Go.wp_at_succ

theorem isR_sort {l : List UInt8} {r : RS} {kw : List UInt8} (h : isR l r kw = true) : (tk l r.at').sort ≠ 0 := by
  simp [isR] at h; exact h.2.1
theorem words_end (s : ByteArray) (cur : List UInt8) (k : Nat) (h : s.size ≤ k) : wordsF cur (s.data.toList.drop k) = [cur] := by
  rw [List.drop_eq_nil_of_le (by simpa using h)]; rfl
theorem words_blank (s : ByteArray) (cur : List UInt8) (k : Nat) (h : k < s.size) (hb : s[k].toNat = 32) : wordsF cur (s.data.toList.drop k) = cur :: wordsF [] (s.data.toList.drop (k + 1)) := by
  rw [drop_cons s k h]; simp [wordsF, hb]
theorem words_in (s : ByteArray) (f k : Nat) (hf : f ≤ k) (h : k < s.size) (hb : ¬ s[k].toNat = 32) : wordsF ((s.data.toList.drop f).take (k - f)) (s.data.toList.drop k) = wordsF ((s.data.toList.drop f).take (k + 1 - f)) (s.data.toList.drop (k + 1)) := by
  have e : (s.data.toList.drop f).take (k + 1 - f) = (s.data.toList.drop f).take (k - f) ++ [s[k]] := by
    have : k + 1 - f = (k - f) + 1 := by omega
    rw [this, List.take_succ_eq_append_getElem (by simp; omega)]
    have e2 : (s.data.toList.drop f)[k - f]'(by simp; omega) = s[k] := by
      rw [List.getElem_drop]
      have : f + (k - f) = k := by omega
      simp only [this]
      rfl
    rw [e2]
  rw [e, drop_cons s k h]
  simp [wordsF, hb]
theorem extract_seg (s : ByteArray) (f k : Nat) (_h : f ≤ k) : (s.extract f k).data.toList = (s.data.toList.drop f).take (k - f) := by
  simp [ByteArray.data_extract, Array.toList_extract, List.extract_eq_take_drop]

def MustRel (l : List UInt8) (s : ByteArray) (fin : RS) (f k : Nat) (r : RS) : Prop :=
  (k ≤ s.size ∧ fin = mustR l r (wordsF ((s.data.toList.drop f).take (k - f)) (s.data.toList.drop k))) ∨ (k = s.size + 1 ∧ fin = r)

theorem must_yes {l : List UInt8} {s : ByteArray} {fin r : RS} {f k : Nat} (h : MustRel l s fin f k r) (hk : k ≤ s.size) (hc : k = s.size ∨ ∃ h : k < s.size, s[k].toNat = 32) (hi : isR l r ((s.data.toList.drop f).take (k - f)) = true) : MustRel l s fin (k + 1) (k + 1) (nextR r) := by
  rcases h with ⟨_, h⟩ | ⟨h, _⟩
  · rcases hc with rfl | ⟨hlt, hb⟩
    · right
      rw [words_end _ _ _ (Nat.le_refl _)] at h
      simp only [mustR, hi, if_true] at h
      exact ⟨rfl, h⟩
    · left
      rw [words_blank _ _ _ hlt hb] at h
      simp only [mustR, hi, if_true] at h
      refine ⟨hlt, ?_⟩
      simpa using h
  · omega
theorem must_no {l : List UInt8} {s : ByteArray} {fin r : RS} {f k : Nat} (h : MustRel l s fin f k r) (hk : k ≤ s.size) (hc : k = s.size ∨ ∃ h : k < s.size, s[k].toNat = 32) (hi : isR l r ((s.data.toList.drop f).take (k - f)) = false) : fin = failR l r 1 := by
  rcases h with ⟨_, h⟩ | ⟨h, _⟩
  · rcases hc with rfl | ⟨hlt, hb⟩
    · rw [words_end _ _ _ (Nat.le_refl _)] at h
      simpa [mustR, hi] using h
    · rw [words_blank _ _ _ hlt hb] at h
      simpa [mustR, hi] using h
  · omega
theorem must_on {l : List UInt8} {s : ByteArray} {fin r : RS} {f k : Nat} (h : MustRel l s fin f k r) (hf : f ≤ k) (hlt : k < s.size) (hb : ¬ s[k].toNat = 32) : MustRel l s fin f (k + 1) r := by
  rcases h with ⟨_, h⟩ | ⟨h, _⟩
  · left; exact ⟨hlt, by rw [← words_in s f k hf hlt hb]; exact h⟩
  · omega

set_option maxRecDepth 100000 in
set_option maxHeartbeats 400000 in
theorem must_any (w : World) (b g N cap : Nat) (l : List UInt8) (r : RS) (s : ByteArray) (h : RdOK w b g N cap l r) (hs : s.size ≤ 100) (hlen : l.length ≤ 8192) (hn : pos l (N - 1) = l.length) (hN : N ≤ 8193) :
    Calls Tryz.prog 79 #[.pointer (some ⟨b, 0, none⟩), .string s] w fun e w' => e = .returned (.tuple #[]) ∧ RdOK w' b g N cap l (mustR l r (wordsF [] s.data.toList)) ∧ w.grownBy w' (some b) := by
  generalize hfin : mustR l r (wordsF [] s.data.toList) = fin
  have HM0 : MustRel l s fin 0 0 r := .inl ⟨by omega, by simpa using hfin.symm⟩
  clear hfin
  go_enter Tryz.func79, Tryz.ntmps79
  go_wp2_with fail
  go_loopw [4, 5] (fun f i wr => ∃ (k fr : Nat) (r1 : RS), i = .int .i64 k ∧ f = .int .i64 fr ∧ fr ≤ k ∧ k ≤ s.size + 1 ∧ MustRel l s fin fr k r1 ∧ RdOK wr b g N cap l r1 ∧ w.grownBy wr (some b)) (fun _ i _ => s.size + 1 - (intOf i).toNat)
  case atStart => exact ⟨0, 0, r, rfl, rfl, Nat.le_refl _, by omega, HM0, h, grown_refl _ _⟩
  case round =>
    obtain ⟨k, fr, r1, rfl, rfl, hfk, hk, HM, hr, hg⟩ := hrel
    clear HM0 h
    by_cases hkk : k ≤ s.size
    · have hNX := hr.next hn
      have c1 := hr.c1
      have f1 := hr.fz 1
      have hfk' : (fr : Int) ≤ (k : Int) := by omega
      have hfk0 : (0 : Int) ≤ (fr : Int) := by omega
      have hkk' : (k : Int) ≤ (s.size : Int) := by omega
      have hsplit : (Hid (k = s.size ∨ ∃ h : k < s.size, s[k].toNat = 32) ∧ (((k : Int) == (s.size : Int)) = true ∨ ((k : Int) == (s.size : Int)) = false ∧ ∃ h : k < s.size, ((s[k].toNat : Int) == 32) = true)) ∨ (((k : Int) == (s.size : Int)) = false ∧ ∃ h : k < s.size, ((s[k].toNat : Int) == 32) = false) := by
        by_cases hend : k = s.size
        · left; exact ⟨.inl hend, .inl (by simp; omega)⟩
        · by_cases h32 : s[k].toNat = 32
          · left; exact ⟨.inr ⟨by omega, h32⟩, .inr ⟨by simp; omega, by omega, by simp; omega⟩⟩
          · right; exact ⟨by simp; omega, by omega, by simp; omega⟩
      rcases hsplit with ⟨HC, hq⟩ | ⟨hq, hlt, hb32⟩
      · have hseg := extract_seg s fr k hfk
        have HSG : Hid _ := hseg
        clear hseg
        rcases hq with hq | ⟨hq, hlt, hb32⟩
        all_goals
          go_wp2_with fail
          refine (is_any wr b g N cap l r1 _ hr).mono ?_
          rintro e w2 ⟨rfl, q, rfl⟩
          rw [HSG.out]
          have hr2 := hr.drewN q
          have hg2 := grown_trans hg (grown_drewN wr q _)
          cases hi : isR l r1 ((s.data.toList.drop fr).take (k - fr))
          · go_wp2_with fail
            refine (fail_any _ b g N cap l r1 1 hr2 hlen).mono ?_
            rintro e w3 ⟨rfl, hr3, hg3⟩
            go_wp2_with fail
            go_returns
            rw [must_no HM hkk HC.out hi]
            exact ⟨rfl, hr3, grown_trans hg2 hg3⟩
          · have hat := hNX (isR_sort hi)
            go_wp2_with fail
            go_roundw
            case rel => exact ⟨k + 1, k + 1, nextR r1, by go_num, by go_num, Nat.le_refl _, by omega, must_yes HM hkk HC.out hi, by exact hr2.setAt (r1.at' + 1) hat, grown_trans hg2 (grown_set _ _ _ _)⟩
            case measure => simp [intOf]; omega
      · go_wp2_with fail
        go_roundw
        case rel => exact ⟨k + 1, fr, r1, by go_num, rfl, by omega, by omega, must_on HM hfk hlt (byteF (c := 32) hb32), hr, hg⟩
        case measure => simp [intOf]; omega
    · go_wp2_with fail
      go_returns
      rcases HM with ⟨h1, _⟩ | ⟨_, h2⟩
      · omega
      · rw [h2]; exact ⟨rfl, hr, hg⟩
end Go.Proofs.YteioennfpkoagaaGreatDoor
