import Derived.Test.YteioennfpkoagabGreatDoorH18
import Derived.Test.YteioennfpkoagabGreatDoorH12
import Derived.Lib.SliceRun
import Derived.Deep.DeepCutAuto
namespace Go.Proofs.YteioennfpkoagabGreatDoor.C
open Go.RowKit K
attribute [local go_sem ↓] Go.wp_at_zero Go.wp_at_succ

/- several cells of a block -/
theorem blk_many (b : Nat) : ∀ (vs : List Value) (o : Nat) (w : World) (cs : Array Value) (t : TypeId) (fr : Nat × Nat), w.heap[b]? = some (.cells cs t fr) → ∃ arr, (w.setCells b o vs).heap[b]? = some (.cells arr t fr) ∧ arr.size = cs.size
  | [], _, _, cs, _, _, h => ⟨cs, h, rfl⟩
  | v :: vs, o, w, cs, t, fr, h => by
    obtain ⟨arr, h1, h2⟩ := blk_many b vs (o + 1) (w.setCell ⟨b, o, none⟩ v) _ t fr (blk_set o v h)
    exact ⟨arr, h1, by rw [h2]; simp⟩
theorem far_many (b : Nat) {c : Nat} (hc : c ≠ b) : ∀ (vs : List Value) (o : Nat) (w : World), (w.setCells b o vs).heap[c]? = w.heap[c]?
  | [], _, _ => rfl
  | v :: vs, o, w => by
    show ((w.setCell ⟨b, o, none⟩ v).setCells b (o + 1) vs).heap[c]? = _
    rw [far_many b hc vs (o + 1), blk_far o v hc]
theorem size_many (b : Nat) : ∀ (vs : List Value) (o : Nat) (w : World), (w.setCells b o vs).heap.size = w.heap.size
  | [], _, _ => rfl
  | v :: vs, o, w => by
    show ((w.setCell ⟨b, o, none⟩ v).setCells b (o + 1) vs).heap.size = _
    rw [size_many b vs (o + 1)]
    simp
theorem Frm.many {w w' : World} {o : Nat → Prop} (h : Frm o w w') {b : Nat} (hb : o b ∨ w.heap.size ≤ b) : ∀ (vs : List Value) (k : Nat), Frm o w (w'.setCells b k vs) := by
  intro vs
  induction vs generalizing w' with
  | nil => intro k; exact h
  | cons v vs ih => intro k; exact ih (h.set hb k v) (k + 1)
def Lay.o (L : Lay) : Nat → Prop := fun b => L.rl b ≠ none
/- nothing turned but what a kernel owns, and of that nothing that is fixed -/
structure Fx (L : Lay) (w w' : World) : Prop where
  frm : Frm L.o w w'
  fix : ∀ b, L.fix b → b < w.heap.size → w'.heap[b]? = w.heap[b]?
theorem Fx.refl (L : Lay) (w : World) : Fx L w w := ⟨Frm.refl _ _, fun _ _ _ => rfl⟩
theorem Fx.all {L : Lay} {w w' : World} (h : Below w.heap.size w w') : Fx L w w' := ⟨Frm.all _ h, fun b _ hb => h.block b hb⟩
theorem Fx.trans {L : Lay} {a b c : World} (h : Fx L a b) (h2 : Fx L b c) : Fx L a c :=
  ⟨h.frm.trans h2.frm (newO.refl _ _), fun x hx hl => by rw [h2.fix x hx (by have := h.frm.size; omega), h.fix x hx hl]⟩
theorem Fx.set {L : Lay} {w w' : World} (h : Fx L w w') {b : Nat} {r : Role} (hb : L.rl b = some r) (hr : r ≠ .fix) (i : Nat) (v : Value) : Fx L w (w'.setCell ⟨b, i, none⟩ v) :=
  ⟨h.frm.set (.inl (rl_ne hb)) i v, fun x hx hl => by rw [blk_far i v (ne_role hx hb (fun e => hr e.symm)), h.fix x hx hl]⟩
theorem Fx.many {L : Lay} {w w' : World} (h : Fx L w w') {b : Nat} {r : Role} (hb : L.rl b = some r) (hr : r ≠ .fix) (vs : List Value) (k : Nat) : Fx L w (w'.setCells b k vs) :=
  ⟨h.frm.many (.inl (rl_ne hb)) vs k, fun x hx hl => by rw [far_many b (ne_role hx hb (fun e => hr e.symm)), h.fix x hx hl]⟩
theorem Fx.drew {L : Lay} {w w' : World} (h : Fx L w w') (n : Nat) : Fx L w (w'.drewN n) := ⟨⟨h.frm.os, h.frm.tape, h.frm.output, h.frm.size, h.frm.block⟩, h.fix⟩
section
variable {w : World} {L : Lay} {D : ManD} {S : KS} {pl : List Int} {ps : List PartD} {cs : List ChanD} {tm : Nat}
set_option maxRecDepth 100000 in
set_option maxHeartbeats 1000000 in
theorem rget_any (b m c k : Nat) (r : RegD) (v : Int) (hg : RegG r) (c0 : w.cell? ⟨b, 0, none⟩ = some (.int .i64 (64 * r.page))) (c1 : w.cell? ⟨b, 1, none⟩ = some (.slice (some ⟨m, 0, none⟩) (64 * r.pages).toNat c)) (hk : (k : Int) < 64 * r.pages) (cm : w.cell? ⟨m, k, none⟩ = some (.int .u8 v)) (hv : 0 ≤ v ∧ v ≤ 255) :
    Calls Tryz.prog 48 #[ptrV b, .int .i64 (64 * r.page + k)] w fun e w' => e = .returned (.int .i64 v) ∧ Below w.heap.size w w' := by
  obtain ⟨h1, h2, h3, _⟩ := hg
  have e0 : (((64 * r.pages).toNat : Nat) : Int) = 64 * r.pages := by omega
  generalize (64 * r.pages).toNat = ln at *
  have hkl : (k : Int) < (ln : Int) := by omega
  have e1 : 64 * r.page + (k : Int) - 64 * r.page = k := by omega
  have hw1 : wrap64 (64 * r.page + (k : Int) - 64 * r.page) = k := by unfold wrap64; omega
  have hw2 : wrap64 v = v := by unfold wrap64; omega
  unfold ptrV
  go_enter Tryz.func48, Tryz.ntmps48
  go_wp2_with fail
  go_quiet (fail)
  go_wp2_with fail
  go_ret
  exact ⟨rfl, below_drewN (Below.refl _ _) _⟩
set_option maxRecDepth 100000 in
set_option maxHeartbeats 1000000 in
theorem rset_any (b m c k : Nat) (r : RegD) (v x : Int) (_hx : inR x) (hg : RegG r) (c0 : w.cell? ⟨b, 0, none⟩ = some (.int .i64 (64 * r.page))) (c1 : w.cell? ⟨b, 1, none⟩ = some (.slice (some ⟨m, 0, none⟩) (64 * r.pages).toNat c)) (hk : (k : Int) < 64 * r.pages) (cm : w.cell? ⟨m, k, none⟩ = some (.int .u8 v)) (fm : w.frozen? ⟨m, k, none⟩ = false) :
    Calls Tryz.prog 47 #[ptrV b, .int .i64 (64 * r.page + k), .int .i64 x] w fun e w' => e = .returned (.tuple #[]) ∧ ∃ q, w' = (w.setCell ⟨m, k, none⟩ (.int .u8 (x % 256))).drewN q := by
  obtain ⟨h1, h2, h3, _⟩ := hg
  have e0 : (((64 * r.pages).toNat : Nat) : Int) = 64 * r.pages := by omega
  generalize (64 * r.pages).toNat = ln at *
  have hkl : (k : Int) < (ln : Int) := by omega
  have e1 : 64 * r.page + (k : Int) - 64 * r.page = k := by omega
  have hw1 : IntKind.i64.wrap (64 * r.page + (k : Int) - 64 * r.page) = k := by rw [e1]; exact wrap_small _ (by omega) (by omega)
  have hw2 : IntKind.u8.wrap x = x % 256 := by simp [IntKind.wrap, IntKind.bits, IntKind.signed]
  unfold ptrV
  go_enter Tryz.func47, Tryz.ntmps47
  go_upto_region 0 with fail
  go_region
  go_end0
  exact ⟨rfl, 1, rfl⟩
end
end Go.Proofs.YteioennfpkoagabGreatDoor.C
namespace Go.Proofs.YteioennfpkoagabGreatDoor.C
open Go.RowKit K
attribute [local go_sem ↓] Go.wp_at_zero Go.wp_at_succ

/- the first regions' bytes are zero -/
def zeroM (S : KS) (i : Nat) (rs : List RegD) (j : Nat) : KS := { S with mem := fun q a => if q = i ∧ (rs.take j).any (fun r => decide (hitA r a)) = true then 0 else S.mem q a }
theorem zeroM_zero (S : KS) (i : Nat) (rs : List RegD) : zeroM S i rs 0 = S := by
  unfold zeroM
  simp
theorem any_step (rs : List RegD) (j : Nat) (hj : j < rs.length) (a : Int) : (rs.take (j + 1)).any (fun r => decide (hitA r a)) = ((rs.take j).any (fun r => decide (hitA r a)) || decide (hitA rs[j] a)) := by
  rw [take_snocD rs j hj, List.any_append]; simp
theorem apart_hit {a b : RegD} (h : apartB a b = true) {x : Int} (h1 : hitA a x) : ¬ hitA b x := by
  unfold apartB at h
  simp only [decide_eq_true_eq] at h
  unfold hitA at *
  omega
theorem regs_apart {rs : List RegD} (h : RegsOK rs) {i j : Nat} (hi : i < rs.length) (hj : j < rs.length) (hne : i ≠ j) {x : Int} (h1 : hitA rs[i] x) : ¬ hitA rs[j] x := by
  rcases Nat.lt_or_gt_of_ne hne with hlt | hlt
  · exact apart_hit (List.pairwise_iff_getElem.1 h.2 i j hi hj hlt) h1
  · exact fun h2 => apart_hit (List.pairwise_iff_getElem.1 h.2 j i hj hi hlt) h2 h1
section
variable {w w' : World} {L : Lay} {D : ManD} {S : KS} {pl : List Int} {ps : List PartD} {cs : List ChanD} {tm : Nat}
theorem KVi.zeroStep (i : Nat) (x : PartD) (j : Nat) (h : KVi w L pl ps cs (zeroM S i x.regs j)) (hx : ps[i]? = some x) (hok : RegsOK x.regs) (hj : j < x.regs.length)
    (hw : ∀ b, L.rl b ≠ none → b ≠ L.mb i j → w'.heap[b]? = w.heap[b]?) (arr : Array Value) (hb : w'.heap[L.mb i j]? = some (.cells arr 5)) (ha : ∀ k : Nat, (k : Int) < 64 * x.regs[j].pages → arr[k]? = some (.int .u8 0)) :
    KVi w' L pl ps cs (zeroM S i x.regs (j + 1)) := by
  have hr : x.regs[j]? = some x.regs[j] := List.getElem?_eq_getElem hj
  have hg := regG_of (hok.1 _ (List.getElem_mem hj))
  refine h.setBytes hx hr (zeroM S i x.regs (j + 1)).mem arr hw hb (fun k hk => ?_) (fun q y hy l t ht hne k hk => ?_)
  · have hh : hitA x.regs[j] (64 * x.regs[j].page + k) := by unfold hitA; omega
    have e : (zeroM S i x.regs (j + 1)).mem i (64 * x.regs[j].page + k) = 0 := by
      show (if i = i ∧ _ then _ else _) = _
      rw [if_pos ⟨rfl, by rw [any_step _ _ hj]; simp [hh]⟩]
    rw [e]
    exact ⟨ha k hk, by omega, by omega⟩
  · show (if q = i ∧ _ then _ else _) = if q = i ∧ _ then _ else _
    by_cases hq : q = i
    · subst hq
      have hlj : l ≠ j := by rcases hne with e | e; exact absurd rfl e; exact e
      rw [hx] at hy
      cases hy
      obtain ⟨hl, rfl⟩ := List.getElem?_eq_some_iff.1 ht
      have hh : hitA x.regs[l] (64 * x.regs[l].page + k) := by
        have := regG_of (hok.1 _ (List.getElem_mem hl))
        have := this.pages
        unfold hitA; omega
      have hnh := regs_apart hok hl hj hlj hh
      rw [any_step _ _ hj]
      simp [hnh]
    · rw [if_neg (fun e => hq e.1), if_neg (fun e => hq e.1)]
set_option maxRecDepth 100000 in
set_option maxHeartbeats 2000000 in
theorem clear_any (h : KVi w L pl ps cs S) {i : Nat} {x : PartD} (hx : ps[i]? = some x) (hok : RegsOK x.regs) (hrl : x.regs.length ≤ 4) :
    Calls Tryz.prog 85 #[ptrV (L.pb i)] w fun e w' => e = .returned (.tuple #[]) ∧ KVi w' L pl ps cs (zeroM S i x.regs x.regs.length) ∧ Fx L w w' := by
  have c3 : w.cell? ⟨L.pb i, 3, none⟩ = some (L.rv i) := by rw [cell_of_blk (h.s.part i x hx).2]; rfl
  obtain ⟨va, cap, erv, hrow⟩ := h.s.regs i x hx
  rw [erv] at c3
  have HH : Hid (KVi w L pl ps cs S) := h
  have HX : Hid (ps[i]? = some x) := hx
  have HOK : Hid (RegsOK x.regs) := hok
  have ERV : Hid (L.rv i = .slice va x.regs.length cap) := erv
  clear h hx hok hrow erv
  unfold ptrV
  go_enter Tryz.func85, Tryz.ntmps85
  go_wp2_with fail
  go_loopw [9] (fun v wr => ∃ (j : Nat), v = .int .i64 j ∧ j ≤ x.regs.length ∧ Hid (KVi wr L pl ps cs (zeroM S i x.regs j)) ∧ Hid (Fx L w wr)) (fun v _ => x.regs.length - (intOf v).toNat)
  case atStart => exact ⟨0, rfl, by omega, by rw [zeroM_zero]; exact HH, Fx.refl _ _⟩
  case round =>
    obtain ⟨j, rfl, hj, HK, HF⟩ := hrel
    by_cases hlt : j < x.regs.length
    · have hlt' : (j : Int) < (x.regs.length : Int) := by omega
      have hj0 : (0 : Int) ≤ (j : Int) := by omega
      have hr : x.regs[j]? = some x.regs[j] := List.getElem?_eq_getElem hlt
      obtain ⟨va2, cap2, e2, hrow⟩ := HK.out.s.regs i x HX.out
      rw [ERV.out] at e2
      obtain ⟨rfl, rfl⟩ : va = va2 ∧ cap = cap2 := by cases e2; exact ⟨rfl, rfl⟩
      obtain ⟨g, rfl, _, hcell⟩ := hrow j hlt
      unfold ptrV at hcell
      have d1 := (HK.out.s.cReg HX.out hr).2.1
      obtain ⟨arr, hm1, hm2⟩ := HK.out.s.mem i x HX.out j _ hr
      have hro := (HK.out.s.reg i x HX.out j _ hr).2.2.1
      have hg := (regG_of (HOK.out.1 _ (List.getElem_mem hlt))).pages
      have hcl : ∀ ty, (Builtin.clear_ #[87] ty #[.slice (some ⟨L.mb i j, 0, none⟩) (64 * x.regs[j].pages).toNat (L.mc i j)]).run Tryz.prog wr = .ok (.tuple #[]) (wr.setCells (L.mb i j) 0 (List.replicate (64 * x.regs[j].pages).toNat (.int .u8 0))) :=
        fun ty => Lib.run_clear_slice wr 87 5 ty (.int .u8 0) Tryz.underlying87 (fun w => Tryz.zeroValue5 w) rfl rfl (L.mb i j) 0 _ _ (by omega) (fun t ht => by rw [Nat.zero_add, cell_of_blk hm1, (hm2 t (by omega)).1]; rfl) (fun t ht => frozen_of_blk hm1)
      have HK2 : Hid (KVi (wr.setCells (L.mb i j) 0 (List.replicate (64 * x.regs[j].pages).toNat (.int .u8 0))) L pl ps cs (zeroM S i x.regs (j + 1))) := by
        obtain ⟨arr2, ha1, ha2⟩ := blk_many (L.mb i j) (List.replicate (64 * x.regs[j].pages).toNat (.int .u8 0)) 0 wr arr 5 (0, 0) hm1
        refine KVi.zeroStep i x j HK.out HX.out HOK.out hlt (fun b _ hne => far_many _ hne _ _ _) arr2 ha1 (fun k hk => ?_)
        have hk2 : k < (List.replicate (64 * x.regs[j].pages).toNat (Value.int .u8 0)).length := by rw [List.length_replicate]; omega
        have := World.cell?_setCells_in (L.mb i j) (List.replicate (64 * x.regs[j].pages).toNat (Value.int .u8 0)) 0 wr (fun t ht => by rw [List.length_replicate] at ht; rw [Nat.zero_add, cell_of_blk hm1, (hm2 t (by omega)).1]; rfl) k hk2
        rw [Nat.zero_add, cell_of_blk ha1, List.getElem_replicate] at this
        exact this
      have HF2 : Hid (Fx L w (wr.setCells (L.mb i j) 0 (List.replicate (64 * x.regs[j].pages).toNat (.int .u8 0)))) := HF.out.many hro (by simp) _ _
      clear hm1 hm2 hrow hro hr
      generalize (64 * x.regs[j].pages).toNat = ln at *
      go_wp2_with fail
      exact ⟨⟨j + 1, by go_num, by omega, HK2, HF2⟩, by simp [intOf]; omega⟩
    · have hlt' : ¬ (j : Int) < (x.regs.length : Int) := by omega
      have he : j = x.regs.length := by omega
      go_wp2_with fail
      go_end0
      refine ⟨rfl, ?_, HF.out⟩
      rw [← he]
      exact HK.out
/- a channel is emptied -/
theorem KVi.emptied (h : KVi w L pl ps cs S) {c : Nat} {y : ChanD} (hy : cs[c]? = some y) : KVi (w.setCell ⟨L.cb c, 5, none⟩ (.slice none 0 0)) L pl ps cs (setCh S c []) ∧ Fx L w (w.setCell ⟨L.cb c, 5, none⟩ (.slice none 0 0)) := by
  obtain ⟨mv, age, h1, h2, h3, h4, h5, h6⟩ := h.chan c y hy
  refine ⟨?_, (Fx.refl _ _).set h1 (by simp) _ _⟩
  refine h.setChan hy L.rl (fun _ _ => rfl) (fun b hb => by simpa using h.s.low b hb) (fun b hb hne _ => blk_far 5 _ hne) (.slice none 0 0) age [] (by rw [blk_set 5 _ h2]; rfl) ⟨[], rfl, World.ownsRow_nil _ _ _ _, (fun b hb => by cases hb), (fun k hk => by simp at hk)⟩ ?_ (fun m hm => by cases hm) ?_
  · obtain ⟨a1, a2, a3⟩ := h4
    have e : (setCh S c []).chs c = [] := by show (if c = c then [] else S.chs c) = []; rw [if_pos rfl]
    refine ⟨a1, a2, fun hk => ⟨by rw [e]; simp, fun m hm => by rw [e] at hm; cases hm⟩⟩
  · have := (Int.natCast_nonneg (S.chs c).length)
    simp only [List.length_nil]
    omega
set_option maxRecDepth 100000 in
set_option maxHeartbeats 1000000 in
theorem empty_any (h : KVi w L pl ps cs S) {c : Nat} {y : ChanD} (hy : cs[c]? = some y) :
    Calls Tryz.prog 76 #[ptrV (L.cb c)] w fun e w' => e = .returned (.tuple #[]) ∧ KVi w' L pl ps cs (setCh S c []) ∧ Fx L w w' := by
  have HE : Hid _ := h.emptied hy
  obtain ⟨mv, age, h1, h2, h3, h4⟩ := h.chan c y hy
  have c5 : w.cell? ⟨L.cb c, 5, none⟩ = some mv := by rw [cell_of_blk h2]; rfl
  have f5 : w.frozen? ⟨L.cb c, 5, none⟩ = false := frozen_of_blk h2
  clear h h1 h2 h3 h4
  unfold ptrV
  go_enter Tryz.func76, Tryz.ntmps76
  go_wp2_with fail
  go_end0
  exact ⟨rfl, HE.out⟩
end
end Go.Proofs.YteioennfpkoagabGreatDoor.C
namespace Go.Proofs.YteioennfpkoagabGreatDoor.C
open Go.RowKit K
attribute [local go_sem ↓] Go.wp_at_zero Go.wp_at_succ

section
variable {w w' : World} {L : Lay} {D : ManD} {S : KS} {pl : List Int} {ps : List PartD} {cs : List ChanD} {tm : Nat}
/- the channels that were gone through are empty -/
def emptM (S : KS) (g : Nat → Nat) (k : Nat) : KS := { S with chs := fun d => if (List.range k).any (fun j => g j == d) = true then [] else S.chs d }
theorem emptM_step (S : KS) (g : Nat → Nat) (k d : Nat) : (emptM S g (k + 1)).chs d = (setCh (emptM S g k) (g k) []).chs d := by
  show (if (List.range (k + 1)).any (fun j => g j == d) = true then [] else S.chs d) = if d = g k then [] else if (List.range k).any (fun j => g j == d) = true then [] else S.chs d
  rw [List.range_succ, List.any_append]
  by_cases h : d = g k
  · subst h; simp
  · have : (g k == d) = false := by simpa using fun e => h e.symm
    simp [this, h]
set_option maxRecDepth 100000 in
set_option maxHeartbeats 2000000 in
theorem react_stop (h : KVi w L pl ps cs S) {i : Nat} {x : PartD} (hx : ps[i]? = some x) (b : Nat) (hb : w.heap[b]? = some (.cells #[ptrV (L.pb i)] 79)) :
    Calls Tryz.prog 83 #[ptrV b] w fun e w' => e = .returned (.tuple #[]) ∧ KVi w' L pl ps cs (setSt S i ⟨true, (S.sts i).faults, (S.sts i).restarts⟩) ∧ Fx L w w' := by
  obtain ⟨h1, h2⟩ := h.s.part i x hx
  have c0 : w.cell? ⟨L.pb i, 0, none⟩ = some (.bool (S.sts i).stopped) := by rw [cell_of_blk h2]; rfl
  have f0 : w.frozen? ⟨L.pb i, 0, none⟩ = false := frozen_of_blk h2
  have cb : w.cell? ⟨b, 0, none⟩ = some (.pointer (some ⟨L.pb i, 0, none⟩)) := by rw [cell_of_blk hb]; rfl
  have HK : Hid (KVi (w.setCell ⟨L.pb i, 0, none⟩ (.bool true)) L pl ps cs (setSt S i ⟨true, (S.sts i).faults, (S.sts i).restarts⟩)) := h.setPart hx _ (fun q _ hne => blk_far 0 _ hne) (by rw [blk_set 0 _ h2]; rfl)
  have HF : Hid (Fx L w (w.setCell ⟨L.pb i, 0, none⟩ (.bool true))) := (Fx.refl _ _).set h1 (by simp) _ _
  clear h h1 h2 hb
  unfold ptrV
  go_enter Tryz.func83, Tryz.ntmps83
  go_wp2_with fail
  go_end0
  exact ⟨rfl, HK.out, HF.out⟩
set_option maxRecDepth 100000 in
set_option maxHeartbeats 2000000 in
theorem react_none (w : World) : Calls Tryz.prog 86 #[] w fun e w' => e = .returned (.tuple #[]) ∧ w' = w := by
  go_enter Tryz.func86, Tryz.ntmps86
  go_wp2_with fail
  go_end0
  exact ⟨rfl, rfl⟩
set_option maxRecDepth 100000 in
set_option maxHeartbeats 4000000 in
theorem react_again (h : KVi w L pl ps cs S) {i : Nat} {x : PartD} (hx : ps[i]? = some x) (hok : RegsOK x.regs) (hrl : x.regs.length ≤ 4) (hsm : 0 ≤ (S.sts i).restarts ∧ (S.sts i).restarts ≤ 4611686018427387904) (b c : Nat) (iv : Value) (n : Nat) (g : Nat → Nat)
    (hfb : L.fix b) (hfc : L.fix c) (hb : w.heap[b]? = some (.cells #[ptrV (L.pb i)] 79)) (hc : w.heap[c]? = some (.cells #[iv] 73)) (hrow : RowF w L.fix iv n (fun k => ptrV (L.cb (g k)))) (hg : ∀ k, k < n → ∃ y, cs[g k]? = some y ∧ y.target = (i : Int)) (hn : n ≤ 255) :
    Calls Tryz.prog 84 #[ptrV b, ptrV c] w fun e w' => e = .returned (.tuple #[]) ∧ KVi w' L pl ps cs (setSt (emptM (zeroM S i x.regs x.regs.length) g n) i ⟨(S.sts i).stopped, (S.sts i).faults, (S.sts i).restarts + 1⟩) ∧ Fx L w w' := by
  have HB : Hid (w.heap[b]? = some (.cells #[ptrV (L.pb i)] 79)) := hb
  have HC : Hid (w.heap[c]? = some (.cells #[iv] 73)) := hc
  have HROW : Hid (RowF w L.fix iv n (fun k => ptrV (L.cb (g k)))) := hrow
  have HG : Hid (∀ k, k < n → ∃ y, cs[g k]? = some y ∧ y.target = (i : Int)) := hg
  have cb : w.cell? ⟨b, 0, none⟩ = some (.pointer (some ⟨L.pb i, 0, none⟩)) := by rw [cell_of_blk hb]; rfl
  have HCL : Hid _ := clear_any h hx hok hrl
  have HX : Hid (ps[i]? = some x) := hx
  obtain ⟨va, cap, rfl, hx9⟩ := hrow
  clear hx9
  have HFB : Hid (L.fix b) := hfb
  have HFC : Hid (L.fix c) := hfc
  clear h hx hok hb hc hg hfb hfc
  unfold ptrV at HCL ⊢
  go_enter Tryz.func84, Tryz.ntmps84
  go_wp2_with fail
  refine Calls.mono HCL.out ?_
  rintro e w1 ⟨rfl, hk1, hf1⟩
  have HK1 : Hid (KVi w1 L pl ps cs (zeroM S i x.regs x.regs.length)) := hk1
  have HF1 : Hid (Fx L w w1) := hf1
  have HC1 : Hid (w1.heap[c]? = some (.cells #[.slice va n cap] 73)) := (hf1.fix c HFC.out (lt_of_blk HC.out)).trans HC.out
  have HB1 : Hid (w1.heap[b]? = some (.cells #[ptrV (L.pb i)] 79)) := (hf1.fix b HFB.out (lt_of_blk HB.out)).trans HB.out
  have c1 : w1.cell? ⟨c, 0, none⟩ = some (.slice va n cap) := by rw [cell_of_blk HC1.out]; rfl
  have hrow1 : RowF w1 L.fix (.slice va n cap) n (fun k => ptrV (L.cb (g k))) := HROW.out.keep2 fun b hb hl => hf1.fix b hb hl
  have HROW1 : Hid (RowF w1 L.fix (.slice va n cap) n (fun k => ptrV (L.cb (g k)))) := hrow1
  clear hk1 hf1 hrow1 HCL
  go_wp2_with fail
  go_loopw [8] (fun v wr => ∃ (k : Nat), v = .int .i64 k ∧ k ≤ n ∧ Hid (KVi wr L pl ps cs (emptM (zeroM S i x.regs x.regs.length) g k)) ∧ Hid (Fx L w1 wr)) (fun v _ => n - (intOf v).toNat)
  case atStart => exact ⟨0, rfl, by omega, HK1.out.congr rfl (fun _ => rfl) (fun d => by simp [emptM]) (fun _ _ _ _ _ _ _ _ => rfl), Fx.refl _ _⟩
  case round =>
    obtain ⟨k, rfl, hk, HK, HF⟩ := hrel
    by_cases hlt : k < n
    · have hlt' : (k : Int) < (n : Int) := by omega
      have hk0 : (0 : Int) ≤ (k : Int) := by omega
      have hrow2 : RowF wr L.fix (.slice va n cap) n (fun k => ptrV (L.cb (g k))) := HROW1.out.keep2 fun b hb hl => HF.out.fix b hb hl
      obtain ⟨va2, cap2, e2, hrow3⟩ := hrow2
      obtain ⟨rfl, rfl⟩ : va = va2 ∧ cap = cap2 := by cases e2; exact ⟨rfl, rfl⟩
      obtain ⟨g2, rfl, _, hcell⟩ := hrow3 k hlt
      obtain ⟨y, hy, _⟩ := HG.out k hlt
      have HEM : Hid _ := empty_any HK.out hy
      unfold ptrV at hcell HEM
      clear hrow3
      go_wp2_with fail
      refine Calls.mono HEM.out ?_
      rintro e w2 ⟨rfl, hk2, hf2⟩
      go_wp2_with fail
      exact ⟨⟨k + 1, by go_num, by omega, hk2.congr rfl (fun _ => rfl) (fun d => emptM_step _ _ _ _) (fun _ _ _ _ _ _ _ _ => rfl), HF.out.trans hf2⟩, by simp [intOf]; omega⟩
    · have hlt' : ¬ (k : Int) < (n : Int) := by omega
      have he : k = n := by omega
      subst he
      obtain ⟨h1, h2⟩ := HK.out.s.part i x HX.out
      have hb3 : wr.heap[b]? = some (.cells #[ptrV (L.pb i)] 79) := (HF.out.fix b HFB.out (lt_of_blk HB1.out)).trans HB1.out
      have cb3 : wr.cell? ⟨b, 0, none⟩ = some (.pointer (some ⟨L.pb i, 0, none⟩)) := by rw [cell_of_blk hb3]; rfl
      have HS : Hid ((emptM (zeroM S i x.regs x.regs.length) g k).sts i = S.sts i) := rfl
      rw [HS.out] at h2
      have c2 : wr.cell? ⟨L.pb i, 2, none⟩ = some (.int .i64 (S.sts i).restarts) := by rw [cell_of_blk h2]; rfl
      have f2 : wr.frozen? ⟨L.pb i, 2, none⟩ = false := frozen_of_blk h2
      have HK3 : Hid (KVi (wr.setCell ⟨L.pb i, 2, none⟩ (.int .i64 ((S.sts i).restarts + 1))) L pl ps cs (setSt (emptM (zeroM S i x.regs x.regs.length) g k) i ⟨(S.sts i).stopped, (S.sts i).faults, (S.sts i).restarts + 1⟩)) := HK.out.setPart HX.out _ (fun q _ hne => blk_far 2 _ hne) (by rw [blk_set 2 _ h2]; rfl)
      have HF3 : Hid (Fx L w (wr.setCell ⟨L.pb i, 2, none⟩ (.int .i64 ((S.sts i).restarts + 1)))) := (HF1.out.trans HF.out).set h1 (by simp) _ _
      clear h2 hb3 h1
      go_wp2_with fail
      go_end0
      exact ⟨rfl, HK3.out, HF3.out⟩
end
end Go.Proofs.YteioennfpkoagabGreatDoor.C
namespace Go.Proofs.YteioennfpkoagabGreatDoor.C
open Go.RowKit K
attribute [local go_sem ↓] Go.wp_at_zero Go.wp_at_succ

section
variable {w w' : World} {L : Lay} {D : ManD} {S : KS}
theorem actF_ofK {i : Nat} {x : PartD} (hx : D.parts[i]? = some x) : actF D i = x.action := by unfold actF; rw [hx]; rfl
def faultS (S : KS) (i : Nat) : KS := setSt S i ⟨(S.sts i).stopped, (S.sts i).faults + 1, (S.sts i).restarts⟩
theorem setSt_at (S : KS) (i : Nat) (s : StD) : (setSt S i s).sts i = s := by show (if i = i then s else S.sts i) = s; rw [if_pos rfl]
theorem setSt_ne (S : KS) {i q : Nat} (s : StD) (h : q ≠ i) : (setSt S i s).sts q = S.sts q := by show (if q = i then s else S.sts q) = _; rw [if_neg h]
theorem fail_stsK {i : Nat} (S : KS) (q : Nat) : (failF D S i).sts q = if q = i then failSt (actF D i) (S.sts q) else S.sts q := rfl
set_option maxRecDepth 100000 in
set_option maxHeartbeats 4000000 in
theorem fail_any (hz : checkF D = 0) (h : KVi w L (planF D) D.parts D.chans S) (hs : SmallK bigK S) {i : Nat} (hi : i < D.parts.length) :
    Calls Tryz.prog 46 #[ptrV (L.pb i)] w fun e w' => e = .returned (.tuple #[]) ∧ KVi w' L (planF D) D.parts D.chans (failF D S i) ∧ Fx L w w' := by
  obtain ⟨x, hx⟩ : ∃ x, D.parts[i]? = some x := ⟨_, List.getElem?_eq_getElem hi⟩
  obtain ⟨hact, hok, hrl⟩ := part_regs hz hx
  obtain ⟨h1, h2⟩ := h.s.part i x hx
  have hfl := hs.flt i
  have hre := hs.res i
  unfold bigK at hfl hre
  have c1 : w.cell? ⟨L.pb i, 1, none⟩ = some (.int .i64 (S.sts i).faults) := by rw [cell_of_blk h2]; rfl
  have f1 : w.frozen? ⟨L.pb i, 1, none⟩ = false := frozen_of_blk h2
  have HB1 : Hid ((w.setCell ⟨L.pb i, 1, none⟩ (.int .i64 ((S.sts i).faults + 1))).heap[L.pb i]? = some (.cells (partB L i ⟨(S.sts i).stopped, (S.sts i).faults + 1, (S.sts i).restarts⟩) 78)) := by
    show _ = _
    rw [blk_set 1 _ h2]; rfl
  have c4 : (w.setCell ⟨L.pb i, 1, none⟩ (.int .i64 ((S.sts i).faults + 1))).cell? ⟨L.pb i, 4, none⟩ = some (L.fv i) := by rw [cell_of_blk HB1.out]; rfl
  have HK1 : Hid (KVi (w.setCell ⟨L.pb i, 1, none⟩ (.int .i64 ((S.sts i).faults + 1))) L (planF D) D.parts D.chans (faultS S i)) := h.setPart hx _ (fun q _ hne => blk_far 1 _ hne) HB1.out
  have HF1 : Hid (Fx L w (w.setCell ⟨L.pb i, 1, none⟩ (.int .i64 ((S.sts i).faults + 1)))) := (Fx.refl _ _).set h1 (by simp) _ _
  have HACT : Hid (actF D i = x.action) := actF_ofK hx
  have HX : Hid (D.parts[i]? = some x) := hx
  have hrt := HK1.out.s.react i x hx
  obtain ⟨fl, hfe⟩ : ∃ fl, (S.sts i).faults = fl := ⟨_, rfl⟩
  have HFE : Hid ((S.sts i).faults = fl) := hfe
  rw [hfe] at c1 c4 HK1 HF1 hfl hrt
  have HST : Hid ((faultS S i).sts i = ⟨(S.sts i).stopped, (S.sts i).faults + 1, (S.sts i).restarts⟩) := setSt_at _ _ _
  clear h h1 h2 hs HB1 hfe
  rcases hrt with ⟨ha, hv⟩ | ⟨ha, b, hfx, hv, hb⟩ | ⟨ha, b, c, iv, n, g, hfx, hfc, hv, hb, hc, hrow, hg1, hg2, hn⟩
  · rw [hv] at c4
    unfold ptrV
    go_enter Tryz.func46, Tryz.ntmps46
    go_wp2_with fail
    generalize w.setCell ⟨L.pb i, 1, none⟩ (.int .i64 (fl + 1)) = W1 at *
    refine Calls.mono (react_none W1) ?_
    rintro e w2 ⟨rfl, rfl⟩
    go_wp2_with fail
    go_end0
    refine ⟨rfl, HK1.out.congr rfl (fun q => ?_) (fun d => ?_) (fun q y hy j r hr k hk => ?_), HF1.out⟩
    · rw [fail_stsK, HACT.out, ha]
      by_cases hq : q = i
      · subst hq
        rw [if_pos rfl, HST.out]
        simp [failSt]
      · rw [if_neg hq]; exact (setSt_ne _ _ hq).symm
    · show (if actF D i = 3 ∧ _ then _ else _) = _
      rw [if_neg (by rw [HACT.out, ha]; simp)]; rfl
    · show (if q = i ∧ actF D i = 3 then _ else _) = _
      rw [if_neg (by rw [HACT.out, ha]; simp)]; rfl
  · rw [hv] at c4
    unfold ptrV at c4
    go_enter Tryz.func46, Tryz.ntmps46
    have HRS : Hid _ := react_stop HK1.out hx b hb
    unfold ptrV at HRS ⊢
    go_wp2_with fail
    generalize w.setCell ⟨L.pb i, 1, none⟩ (.int .i64 (fl + 1)) = W1 at *
    refine Calls.mono HRS.out ?_
    rintro e w2 ⟨rfl, hk2, hf2⟩
    go_wp2_with fail
    go_end0
    refine ⟨rfl, hk2.congr rfl (fun q => ?_) (fun d => ?_) (fun q y hy j r hr k hk => ?_), HF1.out.trans hf2⟩
    · rw [fail_stsK, HACT.out, ha]
      by_cases hq : q = i
      · subst hq
        rw [if_pos rfl, setSt_at, HST.out]
        simp [failSt]
      · rw [if_neg hq, setSt_ne _ _ hq]; exact (setSt_ne _ _ hq).symm
    · show (if actF D i = 3 ∧ _ then _ else _) = _
      rw [if_neg (by rw [HACT.out, ha]; simp)]; rfl
    · show (if q = i ∧ actF D i = 3 then _ else _) = _
      rw [if_neg (by rw [HACT.out, ha]; simp)]; rfl
  · rw [hv] at c4
    unfold ptrV at c4
    go_enter Tryz.func46, Tryz.ntmps46
    have HRS : Hid _ := react_again HK1.out hx hok hrl (by rw [HST.out]; exact ⟨hre.1, by have := hre.2; simp only [] at this ⊢; omega⟩) b c iv n g hfx hfc hb hc hrow hg1 hn
    unfold ptrV at HRS ⊢
    go_wp2_with fail
    generalize w.setCell ⟨L.pb i, 1, none⟩ (.int .i64 (fl + 1)) = W1 at *
    refine Calls.mono HRS.out ?_
    rintro e w2 ⟨rfl, hk2, hf2⟩
    go_wp2_with fail
    go_end0
    refine ⟨rfl, hk2.congr rfl (fun q => ?_) (fun d => ?_) (fun q y hy j r hr k hk => ?_), HF1.out.trans hf2⟩
    · rw [fail_stsK, HACT.out, ha]
      by_cases hq : q = i
      · subst hq
        rw [if_pos rfl, setSt_at, HST.out]
        simp [failSt]
      · rw [if_neg hq, setSt_ne _ _ hq]; exact (setSt_ne _ _ hq).symm
    · show (if actF D i = 3 ∧ (D.chans[d]?.map ChanD.target) = some (i : Int) then [] else S.chs d) = if (List.range n).any (fun j => g j == d) = true then [] else S.chs d
      by_cases he : (D.chans[d]?.map ChanD.target) = some (i : Int)
      · rw [if_pos ⟨by rw [HACT.out, ha], he⟩]
        obtain ⟨y, hy, hy2⟩ := Option.map_eq_some_iff.1 he
        obtain ⟨k, hk1, hk2⟩ := hg2 d y hy hy2
        rw [if_pos (List.any_eq_true.2 ⟨k, List.mem_range.2 hk1, by simp [hk2]⟩)]
      · rw [if_neg (fun e => he e.2), if_neg]
        intro e
        obtain ⟨k, hk1, hk2⟩ := List.any_eq_true.1 e
        have hk3 : g k = d := by simpa using hk2
        obtain ⟨y, hy, hy2⟩ := hg1 k (List.mem_range.1 hk1)
        rw [hk3] at hy
        exact he (by rw [hy, ← hy2]; rfl)
    · show (if q = i ∧ actF D i = 3 then 0 else S.mem q _) = if q = i ∧ _ then 0 else S.mem q _
      by_cases hq : q = i
      · subst hq
        rw [HX.out] at hy
        cases hy
        obtain ⟨hj, rfl⟩ := List.getElem?_eq_some_iff.1 hr
        have hg := (regG_of (hok.1 _ (List.getElem_mem hj))).pages
        have hany : (x.regs.take x.regs.length).any (fun r => decide (hitA r (64 * x.regs[j].page + k))) = true := by
          rw [List.take_length]
          exact List.any_eq_true.2 ⟨_, List.getElem_mem hj, decide_eq_true (by unfold hitA; omega)⟩
        rw [if_pos ⟨rfl, by rw [HACT.out, ha]⟩, if_pos ⟨rfl, hany⟩]
      · rw [if_neg (fun e => hq e.1), if_neg (fun e => hq e.1)]
end
end Go.Proofs.YteioennfpkoagabGreatDoor.C
namespace Go.Proofs.YteioennfpkoagabGreatDoor.C
open Go.RowKit K
attribute [local go_sem ↓] Go.wp_at_zero Go.wp_at_succ

section
variable {w w' : World} {L : Lay} {D : ManD} {S : KS}
set_option maxRecDepth 100000 in
set_option maxHeartbeats 2000000 in
theorem krunning_any (hz : checkF D = 0) (h : KVi w L (planF D) D.parts D.chans S) :
    Calls Tryz.prog 9 #[ptrV L.kb] w fun e w' => e = .returned (.int .i64 (runF D S)) ∧ Below w.heap.size w w' := by
  have hco := check_ok hz
  have hn : D.parts.length ≤ 8 := hco.2.2.1
  obtain ⟨hl, hl1, hl2, hwho, hlt⟩ := who_plan (S := S) hz
  obtain ⟨va, cap, _, c0, cp⟩ := h.s.cPlan
  obtain ⟨g, rfl, ct⟩ := cp _ hlt
  rw [hwho] at ct
  have c1 := h.s.cTick
  obtain ⟨vb, capb, c2, cq⟩ := h.s.cParts
  have HPT : Hid (∀ i, i < D.parts.length → w.cell? ⟨L.pb i, 0, none⟩ = some (.bool (S.sts i).stopped)) := fun i hi => by
    have h1 := (h.s.part i _ (List.getElem?_eq_getElem hi)).2
    rw [cell_of_blk h1]; rfl
  have HCQ : Hid _ := cq
  have hin : -1 ≤ whoF D S ∧ whoF D S < D.parts.length := tick_in D.parts _
  have HR : Hid (runF D S = if 0 ≤ whoF D S ∧ (S.sts (whoF D S).toNat).stopped = true then -1 else whoF D S) := rfl
  clear cp cq h hco hz hwho
  generalize whoF D S = wv at *
  generalize hk : S.time % (planF D).length = k at *
  clear hk
  generalize (planF D).length = plen at *
  have hk0 : (0 : Int) ≤ (k : Int) := by omega
  have hk1 : (k : Int) < (plen : Int) := by omega
  unfold ptrV at *
  by_cases hw : wv = -1
  · subst hw
    go_enter Tryz.func9, Tryz.ntmps9
    go_wp2_with fail
    go_quiet (fail)
    go_wp2_with fail
    go_ret
    exact ⟨by rw [HR.out]; simp, below_drewN (Below.refl _ _) _⟩
  · obtain ⟨i, rfl⟩ : ∃ i : Nat, wv = i := ⟨wv.toNat, by omega⟩
    have hi : i < D.parts.length := by omega
    have hi' : (i : Int) < (D.parts.length : Int) := by omega
    have hi0 : (0 : Int) ≤ (i : Int) := by omega
    have s0 := HPT.out i hi
    obtain ⟨gb, rfl, cb⟩ := HCQ.out i hi
    have HR2 : Hid (runF D S = if (S.sts i).stopped = true then -1 else (i : Int)) := by
      show _ = _
      rw [HR.out, Int.toNat_natCast]
      by_cases hst : (S.sts i).stopped = true
      · rw [if_pos ⟨hi0, hst⟩, if_pos hst]
      · rw [if_neg (fun e => hst e.2), if_neg hst]
    clear HPT HCQ HR
    generalize (S.sts i).stopped = st at *
    cases st
    · go_enter Tryz.func9, Tryz.ntmps9
      go_wp2_with fail
      go_quiet (fail)
      go_wp2_with fail
      go_ret
      exact ⟨by rw [HR2.out]; simp, below_drewN (Below.refl _ _) _⟩
    · go_enter Tryz.func9, Tryz.ntmps9
      go_wp2_with fail
      go_quiet (fail)
      go_wp2_with fail
      go_ret
      exact ⟨by rw [HR2.out]; simp, below_drewN (Below.refl _ _) _⟩
set_option maxRecDepth 100000 in
set_option maxHeartbeats 2000000 in
theorem kstate_any (hz : checkF D = 0) (h : KVi w L (planF D) D.parts D.chans S) (p : Int) (hp : inR p) :
    Calls Tryz.prog 11 #[ptrV L.kb, .int .i64 p] w fun e w' => e = .returned (.tuple #[stV (stateF D S p).1, .int .i64 (stateF D S p).2]) ∧ Below w.heap.size w w' := by
  have hn : D.parts.length ≤ 8 := (check_ok hz).2.2.1
  have b0 := newB w (.cells #[.bool false, .int .i64 0, .int .i64 0] 44)
  have HN : Hid _ := heap_new w (.cells #[.bool false, .int .i64 0, .int .i64 0] 44)
  have h := h.keep fun b hb => b0.block b (h.s.low b hb)
  have HB0 : Hid _ := b0
  have HHAS : Hid _ := has_any h.s p hp (by omega)
  obtain ⟨vb, capb, c2, cq⟩ := h.s.cParts
  have HPT : Hid (∀ i, i < D.parts.length → (w.alloc (.cells #[.bool false, .int .i64 0, .int .i64 0] 44)).cell? ⟨L.pb i, 0, none⟩ = some (.bool (S.sts i).stopped) ∧ (w.alloc (.cells #[.bool false, .int .i64 0, .int .i64 0] 44)).cell? ⟨L.pb i, 1, none⟩ = some (.int .i64 (S.sts i).faults) ∧ (w.alloc (.cells #[.bool false, .int .i64 0, .int .i64 0] 44)).cell? ⟨L.pb i, 2, none⟩ = some (.int .i64 (S.sts i).restarts)) := fun i hi => by
    have h1 := (h.s.part i _ (List.getElem?_eq_getElem hi)).2
    refine ⟨?_, ?_, ?_⟩ <;> rw [cell_of_blk h1] <;> rfl
  have HCQ : Hid _ := cq
  clear cq h hz b0
  rcases (show (p < 0 ∨ (D.parts.length : Int) ≤ p) ∨ (0 ≤ p ∧ p < (D.parts.length : Int)) by omega) with h1 | ⟨h1, h2⟩
  · have HT : Hid (stateF D S p = (⟨false, 0, 0⟩, 19)) := by show _ = _; unfold stateF; rw [if_pos h1]
    have hb : decide (0 ≤ p ∧ p < (D.parts.length : Int)) = false := by simp; omega
    rw [hb] at HHAS
    unfold ptrV at *
    go_enter Tryz.func11, Tryz.ntmps11
    go_wp2_with fail
    refine Calls.mono HHAS.out ?_
    rintro e w' ⟨rfl, rfl⟩
    generalize w.alloc (.cells #[.bool false, .int .i64 0, .int .i64 0] 44) = W0 at *
    have n0 : W0.cell? ⟨w.heap.size, 0, none⟩ = some (.bool false) := by rw [cell_of_blk HN.out]; rfl
    have n1 : W0.cell? ⟨w.heap.size, 1, none⟩ = some (.int .i64 0) := by rw [cell_of_blk HN.out]; rfl
    have n2 : W0.cell? ⟨w.heap.size, 2, none⟩ = some (.int .i64 0) := by rw [cell_of_blk HN.out]; rfl
    have g0 : W0.frozen? ⟨w.heap.size, 0, none⟩ = false := frozen_of_blk HN.out
    have g1 : W0.frozen? ⟨w.heap.size, 1, none⟩ = false := frozen_of_blk HN.out
    have g2 : W0.frozen? ⟨w.heap.size, 2, none⟩ = false := frozen_of_blk HN.out
    go_wp2_with fail
    have hn3 : (((W0.setCell ⟨w.heap.size, 0, none⟩ (.bool false)).setCell ⟨w.heap.size, 1, none⟩ (.int .i64 0)).setCell ⟨w.heap.size, 2, none⟩ (.int .i64 0)).heap[w.heap.size]? = some (.cells #[.bool false, .int .i64 0, .int .i64 0] 44 (0, 0)) := blk_set 2 _ (blk_set 1 _ (blk_set 0 _ HN.out))
    have hb3 : Below w.heap.size w (((W0.setCell ⟨w.heap.size, 0, none⟩ (.bool false)).setCell ⟨w.heap.size, 1, none⟩ (.int .i64 0)).setCell ⟨w.heap.size, 2, none⟩ (.int .i64 0)) := ((HB0.out.setCell (p := ⟨w.heap.size, 0, none⟩) (Nat.le_refl _) _).setCell (p := ⟨w.heap.size, 1, none⟩) (Nat.le_refl _) _).setCell (p := ⟨w.heap.size, 2, none⟩) (Nat.le_refl _) _
    clear n0 n1 n2 g0 g1 g2
    generalize (((W0.setCell ⟨w.heap.size, 0, none⟩ (.bool false)).setCell ⟨w.heap.size, 1, none⟩ (.int .i64 0)).setCell ⟨w.heap.size, 2, none⟩ (.int .i64 0)) = W3 at *
    have n0 : W3.cell? ⟨w.heap.size, 0, none⟩ = some (.bool false) := by rw [cell_of_blk hn3]; rfl
    have n1 : W3.cell? ⟨w.heap.size, 1, none⟩ = some (.int .i64 0) := by rw [cell_of_blk hn3]; rfl
    have n2 : W3.cell? ⟨w.heap.size, 2, none⟩ = some (.int .i64 0) := by rw [cell_of_blk hn3]; rfl
    refine bodyPost_ret (v := .tuple #[.agg #[.bool false, .int .i64 0, .int .i64 0], .int .i64 19]) (by simp [results, Tryz.results11, go_sem, n0, n1, n2]) rfl ⟨by rw [HT.out]; rfl, hb3⟩
  · obtain ⟨i, rfl⟩ : ∃ i : Nat, p = i := ⟨p.toNat, by omega⟩
    have hi : i < D.parts.length := by omega
    have hb : decide (0 ≤ (i : Int) ∧ (i : Int) < (D.parts.length : Int)) = true := by simp; omega
    rw [hb] at HHAS
    obtain ⟨s0, s1, s2⟩ := HPT.out i hi
    obtain ⟨gb, rfl, cb⟩ := HCQ.out i hi
    have HT : Hid (stateF D S i = (S.sts i, 0)) := by
      show _ = _
      unfold stateF
      rw [if_neg (by omega), Int.toNat_natCast]
    clear HPT HCQ hb hp
    have hi0 : (0 : Int) ≤ (i : Int) := by omega
    unfold ptrV at *
    go_enter Tryz.func11, Tryz.ntmps11
    go_wp2_with fail
    refine Calls.mono HHAS.out ?_
    rintro e w' ⟨rfl, rfl⟩
    generalize w.alloc (.cells #[.bool false, .int .i64 0, .int .i64 0] 44) = W0 at *
    have n0 : W0.cell? ⟨w.heap.size, 0, none⟩ = some (.bool false) := by rw [cell_of_blk HN.out]; rfl
    have n1 : W0.cell? ⟨w.heap.size, 1, none⟩ = some (.int .i64 0) := by rw [cell_of_blk HN.out]; rfl
    have n2 : W0.cell? ⟨w.heap.size, 2, none⟩ = some (.int .i64 0) := by rw [cell_of_blk HN.out]; rfl
    have g0 : W0.frozen? ⟨w.heap.size, 0, none⟩ = false := frozen_of_blk HN.out
    have g1 : W0.frozen? ⟨w.heap.size, 1, none⟩ = false := frozen_of_blk HN.out
    have g2 : W0.frozen? ⟨w.heap.size, 2, none⟩ = false := frozen_of_blk HN.out
    go_wp2_with fail
    have hn3 : (((W0.setCell ⟨w.heap.size, 0, none⟩ (.bool (S.sts i).stopped)).setCell ⟨w.heap.size, 1, none⟩ (.int .i64 (S.sts i).faults)).setCell ⟨w.heap.size, 2, none⟩ (.int .i64 (S.sts i).restarts)).heap[w.heap.size]? = some (.cells #[.bool (S.sts i).stopped, .int .i64 (S.sts i).faults, .int .i64 (S.sts i).restarts] 44 (0, 0)) := blk_set 2 _ (blk_set 1 _ (blk_set 0 _ HN.out))
    have hb3 : Below w.heap.size w (((W0.setCell ⟨w.heap.size, 0, none⟩ (.bool (S.sts i).stopped)).setCell ⟨w.heap.size, 1, none⟩ (.int .i64 (S.sts i).faults)).setCell ⟨w.heap.size, 2, none⟩ (.int .i64 (S.sts i).restarts)) := ((HB0.out.setCell (p := ⟨w.heap.size, 0, none⟩) (Nat.le_refl _) _).setCell (p := ⟨w.heap.size, 1, none⟩) (Nat.le_refl _) _).setCell (p := ⟨w.heap.size, 2, none⟩) (Nat.le_refl _) _
    clear n0 n1 n2 g0 g1 g2
    generalize (((W0.setCell ⟨w.heap.size, 0, none⟩ (.bool (S.sts i).stopped)).setCell ⟨w.heap.size, 1, none⟩ (.int .i64 (S.sts i).faults)).setCell ⟨w.heap.size, 2, none⟩ (.int .i64 (S.sts i).restarts)) = W3 at *
    have n0 : W3.cell? ⟨w.heap.size, 0, none⟩ = some (.bool (S.sts i).stopped) := by rw [cell_of_blk hn3]; rfl
    have n1 : W3.cell? ⟨w.heap.size, 1, none⟩ = some (.int .i64 (S.sts i).faults) := by rw [cell_of_blk hn3]; rfl
    have n2 : W3.cell? ⟨w.heap.size, 2, none⟩ = some (.int .i64 (S.sts i).restarts) := by rw [cell_of_blk hn3]; rfl
    refine bodyPost_ret (v := .tuple #[.agg #[.bool (S.sts i).stopped, .int .i64 (S.sts i).faults, .int .i64 (S.sts i).restarts], .int .i64 0]) (by simp [results, Tryz.results11, go_sem, n0, n1, n2]) rfl ⟨by rw [HT.out]; rfl, hb3⟩
set_option maxRecDepth 100000 in
set_option maxHeartbeats 2000000 in
theorem kraise_any (hz : checkF D = 0) (h : KVi w L (planF D) D.parts D.chans S) (hs : SmallK bigK S) (p : Int) (hp : inR p) :
    Calls Tryz.prog 25 #[ptrV L.kb, .int .i64 p] w fun e w' => e = .returned (.int .i64 (raiseF D S p).1) ∧ KVi w' L (planF D) D.parts D.chans (raiseF D S p).2 ∧ Fx L w w' := by
  have HACT : Hid _ := acting_any hz h p hp
  have HH : Hid (KVi w L (planF D) D.parts D.chans S) := h
  have HFL : Hid (∀ w1, Below w.heap.size w w1 → ∀ i, i < D.parts.length → Calls Tryz.prog 46 #[ptrV (L.pb i)] w1 fun e w' => e = .returned (.tuple #[]) ∧ KVi w' L (planF D) D.parts D.chans (failF D S i) ∧ Fx L w1 w') :=
    fun w1 hb i hi => fail_any hz (h.keep fun b hb' => hb.block b (h.s.low b hb')) hs hi
  clear h hs hp
  unfold ptrV at HACT ⊢
  go_enter Tryz.func25, Tryz.ntmps25
  go_wp2_with fail
  refine Calls.mono HACT.out ?_
  rintro e w1 ⟨hact, hb1⟩
  have HB1 : Hid (Below w.heap.size w w1) := hb1
  rcases hact with ⟨ht, rfl⟩ | ⟨ht, i, rfl, hi, rfl⟩
  · have HR : Hid (raiseF D S p = (turnF D S p, S)) := by show _ = _; unfold raiseF; rw [if_pos ht]
    generalize turnF D S p = tn at *
    go_wp2_with fail
    go_ret
    rw [HR.out]
    exact ⟨rfl, HH.out.keep fun b hb' => HB1.out.block b (HH.out.s.low b hb'), Fx.all HB1.out⟩
  · have HR : Hid (raiseF D S i = (0, failF D S i)) := by show _ = _; unfold raiseF; rw [if_neg (by simp [ht]), Int.toNat_natCast]
    unfold ptrV at HFL ⊢
    go_wp2_with fail
    refine Calls.mono (HFL.out w1 HB1.out i hi) ?_
    rintro e w2 ⟨rfl, hk2, hf2⟩
    go_wp2_with fail
    go_ret
    rw [HR.out]
    exact ⟨rfl, hk2, (Fx.all HB1.out).trans hf2⟩
end
end Go.Proofs.YteioennfpkoagabGreatDoor.C
namespace Go.Proofs.YteioennfpkoagabGreatDoor.C
open Go.RowKit K
attribute [local go_sem ↓] Go.wp_at_zero Go.wp_at_succ

section
variable {w w' : World} {L : Lay} {D : ManD} {S : KS}
theorem KVi.below (h : KVi w L (planF D) D.parts D.chans S) (hb : Below w.heap.size w w') : KVi w' L (planF D) D.parts D.chans S := h.keep fun b hb' => hb.block b (h.s.low b hb')
theorem regsAt_x {i : Nat} {x : PartD} (hx : D.parts[i]? = some x) : regsAt D i = x.regs := by unfold regsAt; rw [hx]; rfl
set_option maxRecDepth 100000 in
set_option maxHeartbeats 2000000 in
theorem kread_any (hz : checkF D = 0) (h : KVi w L (planF D) D.parts D.chans S) (hs : SmallK bigK S) (p a : Int) (hp : inR p) (ha : inR a) :
    Calls Tryz.prog 21 #[ptrV L.kb, .int .i64 p, .int .i64 a] w fun e w' => e = .returned (.tuple #[.int .i64 (readF D S p a).1, .int .i64 (readF D S p a).2.1]) ∧ KVi w' L (planF D) D.parts D.chans (readF D S p a).2.2 ∧ Fx L w w' := by
  have HACT : Hid _ := acting_any hz h p hp
  have HH : Hid (KVi w L (planF D) D.parts D.chans S) := h
  have HZ : Hid (checkF D = 0) := hz
  have HS : Hid (SmallK bigK S) := hs
  clear h hs hp hz
  unfold ptrV at HACT ⊢
  go_enter Tryz.func21, Tryz.ntmps21
  go_wp2_with fail
  refine Calls.mono HACT.out ?_
  rintro e w1 ⟨hact, hb1⟩
  have HB1 : Hid (Below w.heap.size w w1) := hb1
  have HK1 : Hid (KVi w1 L (planF D) D.parts D.chans S) := HH.out.below hb1
  clear hb1
  rcases hact with ⟨ht, rfl⟩ | ⟨ht, i, rfl, hi, rfl⟩
  · have HR : Hid (readF D S p a = (0, turnF D S p, S)) := by show _ = _; unfold readF; rw [if_pos ht]
    generalize turnF D S p = tn at *
    go_wp2_with fail
    go_ret2
    rw [HR.out]
    exact ⟨rfl, HK1.out, Fx.all HB1.out⟩
  · obtain ⟨x, hx⟩ : ∃ x, D.parts[i]? = some x := ⟨_, List.getElem?_eq_getElem hi⟩
    obtain ⟨_, hok, hrl⟩ := part_regs HZ.out hx
    have HREG : Hid _ := regionOf_any HK1.out.s hx hok hrl a ha
    have HT : Hid (turnF D S i = 0) := ht
    have HRG : Hid (regsAt D i = x.regs) := regsAt_x hx
    have HX : Hid (D.parts[i]? = some x) := hx
    have HOK : Hid (RegsOK x.regs) := hok
    clear ht hx hok
    unfold ptrV at HREG ⊢
    go_wp2_with fail
    refine Calls.mono HREG.out ?_
    rintro e w2 ⟨hreg, hb2⟩
    have HB2 : Hid (Below w.heap.size w w2) := HB1.out.trans (hb2.mono HB1.out.size)
    have HK2 : Hid (KVi w2 L (planF D) D.parts D.chans S) := HK1.out.below hb2
    clear hb2 HK1 HB1 HREG
    rcases hreg with ⟨h0, rfl⟩ | ⟨j, r, hr, hh, hri, rfl⟩
    · have HR : Hid (readF D S i a = (0, 22, failF D S i)) := by
        show _ = _
        unfold readF
        rw [if_neg (by simp [HT.out]), Int.toNat_natCast, HRG.out, if_pos h0]
      have HFL : Hid _ := fail_any HZ.out HK2.out HS.out hi
      unfold ptrV at HFL
      go_wp2_with fail
      refine Calls.mono HFL.out ?_
      rintro e w3 ⟨rfl, hk3, hf3⟩
      go_wp2_with fail
      go_ret2
      rw [HR.out]
      exact ⟨rfl, hk3, (Fx.all HB2.out).trans hf3⟩
    · have hg := regG_of (HOK.out.1 r (List.mem_of_getElem? hr))
      obtain ⟨k, rfl⟩ : ∃ k : Nat, a = 64 * r.page + k := ⟨(a - 64 * r.page).toNat, by unfold hitA at hh; omega⟩
      have hk : (k : Int) < 64 * r.pages := by unfold hitA at hh; omega
      have HR : Hid (readF D S i (64 * r.page + k) = (S.mem i (64 * r.page + k), 0, S)) := by
        show _ = _
        unfold readF
        rw [if_neg (by simp [HT.out]), Int.toNat_natCast, HRG.out, if_neg (by have := hg.rights; omega)]
      obtain ⟨r0, r1, r2⟩ := HK2.out.s.cReg HX.out hr
      obtain ⟨arr, hm1, hm2⟩ := HK2.out.s.mem i x HX.out j r hr
      obtain ⟨hm3, hm4⟩ := hm2 k hk
      have HGT : Hid _ := rget_any (w := w2) (L.rb i j) (L.mb i j) (L.mc i j) k r (S.mem i (64 * r.page + k)) hg r0 r1 hk (by rw [cell_of_blk hm1]; exact hm3) hm4
      clear r0 r1 r2 hm1 hm2 hm3 hm4 hg hh hri hr hk
      unfold ptrV at HGT ⊢
      go_wp2_with fail
      refine Calls.mono HGT.out ?_
      rintro e w3 ⟨rfl, hb3⟩
      go_wp2_with fail
      go_ret2
      rw [HR.out]
      exact ⟨rfl, HK2.out.below hb3, Fx.all (HB2.out.trans (hb3.mono HB2.out.size))⟩
theorem KVi.written (_hz : checkF D = 0) (h : KVi w L (planF D) D.parts D.chans S) {i j k : Nat} {x : PartD} {r : RegD} (hx : D.parts[i]? = some x) (hr : x.regs[j]? = some r) (hok : RegsOK x.regs) (hk : (k : Int) < 64 * r.pages) (b : Int) (q : Nat) :
    KVi ((w.setCell ⟨L.mb i j, k, none⟩ (.int .u8 (b % 256))).drewN q) L (planF D) D.parts D.chans (setMem S i (64 * r.page + k) (b % 256)) ∧ Fx L w ((w.setCell ⟨L.mb i j, k, none⟩ (.int .u8 (b % 256))).drewN q) := by
  have hro := (h.s.reg i x hx j r hr).2.2.1
  obtain ⟨arr, hm1, hm2⟩ := h.s.mem i x hx j r hr
  refine ⟨?_, ((Fx.refl _ _).set hro (by simp) _ _).drew q⟩
  have hb : ((w.setCell ⟨L.mb i j, k, none⟩ (.int .u8 (b % 256))).drewN q).heap[L.mb i j]? = some (.cells (arr.setIfInBounds k (.int .u8 (b % 256))) 5) := blk_set k _ hm1
  obtain ⟨hj, hre⟩ := List.getElem?_eq_some_iff.1 hr
  have hgr := regG_of (hok.1 r (List.mem_of_getElem? hr))
  refine h.setBytes hx hr (setMem S i (64 * r.page + k) (b % 256)).mem _ (fun c hc hne => blk_far k _ hne) hb (fun l hl => ?_) (fun q2 y hy l t ht hne m hm => ?_)
  · show (arr.setIfInBounds k _)[l]? = some (.int .u8 (if i = i ∧ 64 * r.page + (l : Int) = 64 * r.page + k then b % 256 else S.mem i _)) ∧ 0 ≤ (if i = i ∧ 64 * r.page + (l : Int) = 64 * r.page + k then b % 256 else S.mem i _) ∧ (if i = i ∧ 64 * r.page + (l : Int) = 64 * r.page + k then b % 256 else S.mem i _) ≤ 255
    obtain ⟨h3, h4⟩ := hm2 l hl
    by_cases e : l = k
    · subst e
      rw [if_pos ⟨rfl, rfl⟩]
      have hlt : l < arr.size := by
        rcases Nat.lt_or_ge l arr.size with h' | h'
        · exact h'
        · rw [Array.getElem?_eq_none h'] at h3; cases h3
      refine ⟨by simp [hlt], by omega, by omega⟩
    · rw [if_neg (by omega)]
      refine ⟨?_, h4⟩
      rw [Array.getElem?_setIfInBounds_ne (by omega)]
      exact h3
  · show (if q2 = i ∧ 64 * t.page + (m : Int) = 64 * r.page + k then b % 256 else S.mem q2 _) = S.mem q2 _
    rw [if_neg]
    rintro ⟨rfl, e⟩
    rw [hx] at hy
    cases hy
    obtain ⟨hl, rfl⟩ := List.getElem?_eq_some_iff.1 ht
    have hlj : l ≠ j := by rcases hne with e | e; exact absurd rfl e; exact e
    have hgt := regG_of (hok.1 _ (List.getElem_mem hl))
    have h1 : hitA x.regs[l] (64 * x.regs[l].page + m) := by unfold hitA; omega
    have h2 := regs_apart hok hl hj hlj h1
    rw [hre] at h2
    exact h2 (by unfold hitA; rw [e]; omega)
set_option maxRecDepth 100000 in
set_option maxHeartbeats 2000000 in
theorem kwrite_any (hz : checkF D = 0) (h : KVi w L (planF D) D.parts D.chans S) (hs : SmallK bigK S) (p a b : Int) (hp : inR p) (ha : inR a) (hb : inR b) :
    Calls Tryz.prog 20 #[ptrV L.kb, .int .i64 p, .int .i64 a, .int .i64 b] w fun e w' => e = .returned (.int .i64 (writeF D S p a b).1) ∧ KVi w' L (planF D) D.parts D.chans (writeF D S p a b).2 ∧ Fx L w w' := by
  have HACT : Hid _ := acting_any hz h p hp
  have HH : Hid (KVi w L (planF D) D.parts D.chans S) := h
  have HZ : Hid (checkF D = 0) := hz
  have HS : Hid (SmallK bigK S) := hs
  clear h hs hp hz
  unfold ptrV at HACT ⊢
  go_enter Tryz.func20, Tryz.ntmps20
  go_wp2_with fail
  refine Calls.mono HACT.out ?_
  rintro e w1 ⟨hact, hb1⟩
  have HB1 : Hid (Below w.heap.size w w1) := hb1
  have HK1 : Hid (KVi w1 L (planF D) D.parts D.chans S) := HH.out.below hb1
  clear hb1
  rcases hact with ⟨ht, rfl⟩ | ⟨ht, i, rfl, hi, rfl⟩
  · have HR : Hid (writeF D S p a b = (turnF D S p, S)) := by show _ = _; unfold writeF; rw [if_pos ht]
    generalize turnF D S p = tn at *
    go_wp2_with fail
    go_ret
    rw [HR.out]
    exact ⟨rfl, HK1.out, Fx.all HB1.out⟩
  · obtain ⟨x, hx⟩ : ∃ x, D.parts[i]? = some x := ⟨_, List.getElem?_eq_getElem hi⟩
    obtain ⟨_, hok, hrl⟩ := part_regs HZ.out hx
    have HREG : Hid _ := regionOf_any HK1.out.s hx hok hrl a ha
    have HT : Hid (turnF D S i = 0) := ht
    have HRG : Hid (regsAt D i = x.regs) := regsAt_x hx
    have HX : Hid (D.parts[i]? = some x) := hx
    have HOK : Hid (RegsOK x.regs) := hok
    clear ht hx hok
    unfold ptrV at HREG ⊢
    go_wp2_with fail
    refine Calls.mono HREG.out ?_
    rintro e w2 ⟨hreg, hb2⟩
    have HB2 : Hid (Below w.heap.size w w2) := HB1.out.trans (hb2.mono HB1.out.size)
    have HK2 : Hid (KVi w2 L (planF D) D.parts D.chans S) := HK1.out.below hb2
    have HFL : Hid _ := fail_any HZ.out HK2.out HS.out hi
    unfold ptrV at HFL
    clear hb2 HK1 HB1 HREG
    rcases hreg with ⟨h0, rfl⟩ | ⟨j, r, hr, hh, hri, rfl⟩
    · have HR : Hid (writeF D S i a b = (22, failF D S i)) := by
        show _ = _
        unfold writeF
        rw [if_neg (by simp [HT.out]), Int.toNat_natCast, HRG.out, if_pos (by rw [h0]; decide)]
      go_wp2_with fail
      refine Calls.mono HFL.out ?_
      rintro e w3 ⟨rfl, hk3, hf3⟩
      go_wp2_with fail
      go_ret
      rw [HR.out]
      exact ⟨rfl, hk3, (Fx.all HB2.out).trans hf3⟩
    · have hg := regG_of (HOK.out.1 r (List.mem_of_getElem? hr))
      obtain ⟨r0, r1, r2⟩ := HK2.out.s.cReg HX.out hr
      by_cases hri2 : r.rights = 2
      · obtain ⟨k, rfl⟩ : ∃ k : Nat, a = 64 * r.page + k := ⟨(a - 64 * r.page).toNat, by unfold hitA at hh; omega⟩
        have hk : (k : Int) < 64 * r.pages := by unfold hitA at hh; omega
        have HR : Hid (writeF D S i (64 * r.page + k) b = (0, setMem S i (64 * r.page + k) (b % 256))) := by
          show _ = _
          unfold writeF
          rw [if_neg (by simp [HT.out]), Int.toNat_natCast, HRG.out, if_neg (by rw [hri, hri2]; simp)]
        obtain ⟨arr, hm1, hm2⟩ := HK2.out.s.mem i x HX.out j r hr
        obtain ⟨hm3, hm4⟩ := hm2 k hk
        have HST : Hid _ := rset_any (w := w2) (L.rb i j) (L.mb i j) (L.mc i j) k r (S.mem i (64 * r.page + k)) b hb hg r0 r1 hk (by rw [cell_of_blk hm1]; exact hm3) (frozen_of_blk hm1)
        have HWR : Hid (∀ q, KVi ((w2.setCell ⟨L.mb i j, k, none⟩ (.int .u8 (b % 256))).drewN q) L (planF D) D.parts D.chans (setMem S i (64 * r.page + k) (b % 256)) ∧ Fx L w2 ((w2.setCell ⟨L.mb i j, k, none⟩ (.int .u8 (b % 256))).drewN q)) := fun q => HK2.out.written HZ.out HX.out hr HOK.out hk b q
        have e2 : decide (r.rights = 2) = true := by simp [hri2]
        rw [e2] at r2
        clear r0 r1 hm1 hm2 hm3 hm4 hg hh hri hr hk e2
        unfold ptrV at HST ⊢
        go_wp2_with fail
        refine Calls.mono HST.out ?_
        rintro e w3 ⟨rfl, q, rfl⟩
        go_wp2_with fail
        go_ret
        rw [HR.out]
        exact ⟨rfl, (HWR.out q).1, (Fx.all HB2.out).trans (HWR.out q).2⟩
      · have HR : Hid (writeF D S i a b = (22, failF D S i)) := by
          show _ = _
          unfold writeF
          rw [if_neg (by simp [HT.out]), Int.toNat_natCast, HRG.out, if_pos (by rw [hri]; exact hri2)]
        have e2 : decide (r.rights = 2) = false := by simp [hri2]
        rw [e2] at r2
        clear r0 r1 hg hh hri hr e2
        unfold ptrV at *
        go_wp2_with fail
        refine Calls.mono HFL.out ?_
        rintro e w3 ⟨rfl, hk3, hf3⟩
        go_wp2_with fail
        go_ret
        rw [HR.out]
        exact ⟨rfl, hk3, (Fx.all HB2.out).trans hf3⟩
end
end Go.Proofs.YteioennfpkoagabGreatDoor.C
namespace Go.Proofs.YteioennfpkoagabGreatDoor.C
open Go.RowKit K
attribute [local go_sem ↓] Go.wp_at_zero Go.wp_at_succ

def PortA (L : Lay) (n : Nat) (c : Int) (e : Ending) : Prop := ((c < 0 ∨ (n : Int) ≤ c) ∧ e = .returned (.pointer none)) ∨ ∃ d : Nat, c = d ∧ d < n ∧ e = .returned (ptrV (L.cb d))
def OldR (b : Nat) (dp age : Int) (w w' : World) : Prop := ∃ q, w' = if age ≤ dp then (w.drewN q).setCell ⟨b, 6, none⟩ (.int .i64 (age + 1)) else w.drewN q
section
variable {w w' : World} {L : Lay} {D : ManD} {S : KS} {pl : List Int} {ps : List PartD} {cs : List ChanD} {tm : Nat}
set_option maxRecDepth 100000 in
set_option maxHeartbeats 1000000 in
theorem channelAt_any (h : KVs w L pl ps cs S tm) (c : Int) (hc : inR c) (_hn : cs.length ≤ 255) :
    Calls Tryz.prog 49 #[ptrV L.kb, .int .i64 c] w fun e w' => PortA L cs.length c e ∧ w' = w := by
  obtain ⟨va, cap, c3, hrow⟩ := h.cChans
  have HROW : Hid _ := hrow
  obtain ⟨hc1, hc2⟩ := hc
  clear h hrow
  unfold ptrV at *
  rcases (show c < 0 ∨ (0 ≤ c ∧ (cs.length : Int) ≤ c) ∨ (0 ≤ c ∧ c < (cs.length : Int)) by omega) with h1 | ⟨h1, h2⟩ | ⟨h1, h2⟩
  · go_enter Tryz.func49, Tryz.ntmps49
    go_wp2_with fail
    go_ret
    exact ⟨.inl ⟨.inl h1, rfl⟩, rfl⟩
  · have e1 : ¬ c < 0 := by omega
    go_enter Tryz.func49, Tryz.ntmps49
    go_wp2_with fail
    go_ret
    exact ⟨.inl ⟨.inr h2, rfl⟩, rfl⟩
  · obtain ⟨d, rfl⟩ : ∃ d : Nat, c = d := ⟨c.toNat, by omega⟩
    have e1 : ¬ (d : Int) < 0 := by omega
    have e2 : ¬ (cs.length : Int) ≤ (d : Int) := by omega
    have hd : d < cs.length := by omega
    obtain ⟨g, rfl, hcell⟩ := HROW.out d hd
    go_enter Tryz.func49, Tryz.ntmps49
    go_wp2_with fail
    go_ret
    exact ⟨.inr ⟨d, rfl, hd, rfl⟩, rfl⟩
set_option maxRecDepth 100000 in
set_option maxHeartbeats 1000000 in
theorem isEmpty_any (b n cap : Nat) (va : Option Addr) (c5 : w.cell? ⟨b, 5, none⟩ = some (.slice va n cap)) (hn : n ≤ 9223372036854775807) :
    Calls Tryz.prog 52 #[ptrV b] w fun e w' => e = .returned (.bool (decide (n = 0))) ∧ w' = w := by
  unfold ptrV
  by_cases h : n = 0
  · subst h
    go_enter Tryz.func52, Tryz.ntmps52
    go_wp2_with fail
    go_ret
    exact ⟨rfl, rfl⟩
  · have h2 : ((n : Int) == 0) = false := by simp; omega
    have h3 : ¬ (n : Int) = 0 := by omega
    go_enter Tryz.func52, Tryz.ntmps52
    go_wp2_with fail
    go_ret
    exact ⟨by simp [h], rfl⟩
set_option maxRecDepth 100000 in
set_option maxHeartbeats 1000000 in
theorem isFull_any (b n cap : Nat) (va : Option Addr) (q : Bool) (dp : Int) (c2 : w.cell? ⟨b, 2, none⟩ = some (.bool q)) (c4 : w.cell? ⟨b, 4, none⟩ = some (.int .i64 dp)) (c5 : w.cell? ⟨b, 5, none⟩ = some (.slice va n cap)) :
    Calls Tryz.prog 50 #[ptrV b] w fun e w' => e = .returned (.bool (q && decide ((n : Int) = dp))) ∧ Below w.heap.size w w' := by
  unfold ptrV
  cases q
  · go_enter Tryz.func50, Tryz.ntmps50
    go_wp2_with fail
    go_quiet (fail)
    go_wp2_with fail
    go_ret
    exact ⟨rfl, below_drewN (Below.refl _ _) _⟩
  · by_cases h : (n : Int) = dp
    · subst h
      go_enter Tryz.func50, Tryz.ntmps50
      go_wp2_with fail
      go_quiet (fail)
      go_wp2_with fail
      go_ret
      exact ⟨by simp, below_drewN (Below.refl _ _) _⟩
    · have h2 : ((n : Int) == dp) = false := by simpa using h
      go_enter Tryz.func50, Tryz.ntmps50
      go_wp2_with fail
      go_quiet (fail)
      go_wp2_with fail
      go_ret
      exact ⟨by simp [h], below_drewN (Below.refl _ _) _⟩
set_option maxRecDepth 100000 in
set_option maxHeartbeats 1000000 in
theorem older_any (b : Nat) (dp age : Int) (hd : 0 ≤ age ∧ age ≤ 241) (c4 : w.cell? ⟨b, 4, none⟩ = some (.int .i64 dp)) (c6 : w.cell? ⟨b, 6, none⟩ = some (.int .i64 age)) (f6 : w.frozen? ⟨b, 6, none⟩ = false) :
    Calls Tryz.prog 26 #[ptrV b] w fun e w' => e = .returned (.tuple #[]) ∧ OldR b dp age w w' := by
  unfold ptrV
  by_cases h : age ≤ dp
  · have h1 : decide (age ≤ dp) = true := decide_eq_true h
    have HI : Hid (age ≤ dp) := h
    go_enter Tryz.func26, Tryz.ntmps26
    go_wp2_with fail
    go_quiet (fail)
    go_wp2_with fail
    go_end0
    exact ⟨rfl, _, (if_pos h).symm⟩
  · have h1 : decide (age ≤ dp) = false := decide_eq_false h
    have HI : Hid (¬ age ≤ dp) := h
    go_enter Tryz.func26, Tryz.ntmps26
    go_wp2_with fail
    go_quiet (fail)
    go_wp2_with fail
    go_end0
    exact ⟨rfl, _, (if_neg (by omega)).symm⟩
end
end Go.Proofs.YteioennfpkoagabGreatDoor.C
