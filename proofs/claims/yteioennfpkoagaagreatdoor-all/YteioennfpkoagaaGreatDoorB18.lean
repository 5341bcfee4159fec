import Derived.Test.YteioennfpkoagaaGreatDoorB17
import Derived.Test.YteioennfpkoagaaGreatDoorB12
import Derived.Lib.SliceRun
import Derived.Deep.DeepCutAuto
import Derived.Test.YteioennfpkoagaaGreatDoorB16
namespace Go.Proofs.YteioennfpkoagaaGreatDoor.C
open Go.RowKit K
attribute [local go_sem ↓] Go.wp_at_zero Go.wp_at_succ

/- several cells of a block -/
theorem blk_many (b : Nat) : ∀ (vs : List Value) (o : Nat) (w : World) (cs : Array Value) (t : TypeId) (fr : Nat × Nat), w.heap[b]? = some (.cells cs t fr) → ∃ arr, (w.setCells b o vs).heap[b]? = some (.cells arr t fr) ∧ arr.size = cs.size
  | [], _, _, cs, _, _, h => ⟨cs, h, rfl⟩
  | v :: vs, o, w, cs, t, fr, h => by
    obtain ⟨arr, h1, h2⟩ := blk_many b vs (o + 1) (w.setCell ⟨b, o, none⟩ v) _ t fr (blk_set o v h)
    exact ⟨arr, h1, by rw [h2]; simp⟩
theorem far_many (b : Nat) {c : Nat} (hc : c ≠ b) : ∀ (vs : List Value) (o : Nat) (w : World), (w.setCells b o vs).heap[c]? = w.heap[c]?
  | [], _, _ => rfl
  | v :: vs, o, w => by
    show ((w.setCell ⟨b, o, none⟩ v).setCells b (o + 1) vs).heap[c]? = _
    rw [far_many b hc vs (o + 1), blk_far o v hc]
theorem size_many (b : Nat) : ∀ (vs : List Value) (o : Nat) (w : World), (w.setCells b o vs).heap.size = w.heap.size
  | [], _, _ => rfl
  | v :: vs, o, w => by
    show ((w.setCell ⟨b, o, none⟩ v).setCells b (o + 1) vs).heap.size = _
    rw [size_many b vs (o + 1)]
    simp
theorem Frm.many {w w' : World} {o : Nat → Prop} (h : Frm o w w') {b : Nat} (hb : o b ∨ w.heap.size ≤ b) : ∀ (vs : List Value) (k : Nat), Frm o w (w'.setCells b k vs) := by
  intro vs
  induction vs generalizing w' with
  | nil => intro k; exact h
  | cons v vs ih => intro k; exact ih (h.set hb k v) (k + 1)
def Lay.o (L : Lay) : Nat → Prop := fun b => L.rl b ≠ none
/- nothing turned but what a kernel owns, and of that nothing that is fixed -/
structure Fx (L : Lay) (w w' : World) : Prop where
  frm : Frm L.o w w'
  fix : ∀ b, L.fix b → b < w.heap.size → w'.heap[b]? = w.heap[b]?
theorem Fx.refl (L : Lay) (w : World) : Fx L w w := ⟨Frm.refl _ _, fun _ _ _ => rfl⟩
theorem Fx.all {L : Lay} {w w' : World} (h : Below w.heap.size w w') : Fx L w w' := ⟨Frm.all _ h, fun b _ hb => h.block b hb⟩
theorem Fx.trans {L : Lay} {a b c : World} (h : Fx L a b) (h2 : Fx L b c) : Fx L a c :=
  ⟨h.frm.trans h2.frm (newO.refl _ _), fun x hx hl => by rw [h2.fix x hx (by have := h.frm.size; omega), h.fix x hx hl]⟩
theorem Fx.set {L : Lay} {w w' : World} (h : Fx L w w') {b : Nat} {r : Role} (hb : L.rl b = some r) (hr : r ≠ .fix) (i : Nat) (v : Value) : Fx L w (w'.setCell ⟨b, i, none⟩ v) :=
  ⟨h.frm.set (.inl (rl_ne hb)) i v, fun x hx hl => by rw [blk_far i v (ne_role hx hb (fun e => hr e.symm)), h.fix x hx hl]⟩
theorem Fx.many {L : Lay} {w w' : World} (h : Fx L w w') {b : Nat} {r : Role} (hb : L.rl b = some r) (hr : r ≠ .fix) (vs : List Value) (k : Nat) : Fx L w (w'.setCells b k vs) :=
  ⟨h.frm.many (.inl (rl_ne hb)) vs k, fun x hx hl => by rw [far_many b (ne_role hx hb (fun e => hr e.symm)), h.fix x hx hl]⟩
theorem Fx.drew {L : Lay} {w w' : World} (h : Fx L w w') (n : Nat) : Fx L w (w'.drewN n) := ⟨⟨h.frm.os, h.frm.tape, h.frm.output, h.frm.size, h.frm.block⟩, h.fix⟩
section
variable {w : World} {L : Lay} {D : ManD} {S : KS} {pl : List Int} {ps : List PartD} {cs : List ChanD} {tm : Nat}
set_option maxRecDepth 100000 in
set_option maxHeartbeats 1000000 in
theorem rget_any (b m c k : Nat) (r : RegD) (v : Int) (hg : RegG r) (c0 : w.cell? ⟨b, 0, none⟩ = some (.int .i64 (64 * r.page))) (c1 : w.cell? ⟨b, 1, none⟩ = some (.slice (some ⟨m, 0, none⟩) (64 * r.pages).toNat c)) (hk : (k : Int) < 64 * r.pages) (cm : w.cell? ⟨m, k, none⟩ = some (.int .u8 v)) (hv : 0 ≤ v ∧ v ≤ 255) :
    Calls Tryz.prog 70 #[ptrV b, .int .i64 (64 * r.page + k)] w fun e w' => e = .returned (.int .i64 v) ∧ Below w.heap.size w w' := by
  obtain ⟨h1, h2, h3, _⟩ := hg
  have e0 : (((64 * r.pages).toNat : Nat) : Int) = 64 * r.pages := by omega
  generalize (64 * r.pages).toNat = ln at *
  have hkl : (k : Int) < (ln : Int) := by omega
  have e1 : 64 * r.page + (k : Int) - 64 * r.page = k := by omega
  have hw1 : wrap64 (64 * r.page + (k : Int) - 64 * r.page) = k := by unfold wrap64; omega
  have hw2 : wrap64 v = v := by unfold wrap64; omega
  unfold ptrV
  go_enter Tryz.func70, Tryz.ntmps70
  go_wp2_with fail
  go_quiet (fail)
  go_wp2_with fail
  go_ret
  exact ⟨rfl, below_drewN (Below.refl _ _) _⟩
set_option maxRecDepth 100000 in
set_option maxHeartbeats 1000000 in
theorem rset_any (b m c k : Nat) (r : RegD) (v x : Int) (_hx : inR x) (hg : RegG r) (c0 : w.cell? ⟨b, 0, none⟩ = some (.int .i64 (64 * r.page))) (c1 : w.cell? ⟨b, 1, none⟩ = some (.slice (some ⟨m, 0, none⟩) (64 * r.pages).toNat c)) (hk : (k : Int) < 64 * r.pages) (cm : w.cell? ⟨m, k, none⟩ = some (.int .u8 v)) (fm : w.frozen? ⟨m, k, none⟩ = false) :
    Calls Tryz.prog 71 #[ptrV b, .int .i64 (64 * r.page + k), .int .i64 x] w fun e w' => e = .returned (.tuple #[]) ∧ ∃ q, w' = (w.setCell ⟨m, k, none⟩ (.int .u8 (x % 256))).drewN q := by
  obtain ⟨h1, h2, h3, _⟩ := hg
  have e0 : (((64 * r.pages).toNat : Nat) : Int) = 64 * r.pages := by omega
  generalize (64 * r.pages).toNat = ln at *
  have hkl : (k : Int) < (ln : Int) := by omega
  have e1 : 64 * r.page + (k : Int) - 64 * r.page = k := by omega
  have hw1 : IntKind.i64.wrap (64 * r.page + (k : Int) - 64 * r.page) = k := by rw [e1]; exact wrap_small _ (by omega) (by omega)
  have hw2 : IntKind.u8.wrap x = x % 256 := by simp [IntKind.wrap, IntKind.bits, IntKind.signed]
  unfold ptrV
  go_enter Tryz.func71, Tryz.ntmps71
  go_upto_region 0 with fail
  go_region
  go_end0
  exact ⟨rfl, 1, rfl⟩
end
end Go.Proofs.YteioennfpkoagaaGreatDoor.C
namespace Go.Proofs.YteioennfpkoagaaGreatDoor.C
open Go.RowKit K
attribute [local go_sem ↓] Go.wp_at_zero Go.wp_at_succ

/- the first regions' bytes are zero -/
def zeroM (S : KS) (i : Nat) (rs : List RegD) (j : Nat) : KS := { S with mem := fun q a => if q = i ∧ (rs.take j).any (fun r => decide (hitA r a)) = true then 0 else S.mem q a }
theorem zeroM_zero (S : KS) (i : Nat) (rs : List RegD) : zeroM S i rs 0 = S := by
  unfold zeroM
  simp
theorem any_step (rs : List RegD) (j : Nat) (hj : j < rs.length) (a : Int) : (rs.take (j + 1)).any (fun r => decide (hitA r a)) = ((rs.take j).any (fun r => decide (hitA r a)) || decide (hitA rs[j] a)) := by
  rw [take_snocD rs j hj, List.any_append]; simp
theorem apart_hit {a b : RegD} (h : apartB a b = true) {x : Int} (h1 : hitA a x) : ¬ hitA b x := by
  unfold apartB at h
  simp only [decide_eq_true_eq] at h
  unfold hitA at *
  omega
theorem regs_apart {rs : List RegD} (h : RegsOK rs) {i j : Nat} (hi : i < rs.length) (hj : j < rs.length) (hne : i ≠ j) {x : Int} (h1 : hitA rs[i] x) : ¬ hitA rs[j] x := by
  rcases Nat.lt_or_gt_of_ne hne with hlt | hlt
  · exact apart_hit (List.pairwise_iff_getElem.1 h.2 i j hi hj hlt) h1
  · exact fun h2 => apart_hit (List.pairwise_iff_getElem.1 h.2 j i hj hi hlt) h2 h1
section
variable {w w' : World} {L : Lay} {D : ManD} {S : KS} {pl : List Int} {ps : List PartD} {cs : List ChanD} {tm : Nat}
theorem KVi.zeroStep (i : Nat) (x : PartD) (j : Nat) (h : KVi w L pl ps cs (zeroM S i x.regs j)) (hx : ps[i]? = some x) (hok : RegsOK x.regs) (hj : j < x.regs.length)
    (hw : ∀ b, L.rl b ≠ none → b ≠ L.mb i j → w'.heap[b]? = w.heap[b]?) (arr : Array Value) (hb : w'.heap[L.mb i j]? = some (.cells arr 5)) (ha : ∀ k : Nat, (k : Int) < 64 * x.regs[j].pages → arr[k]? = some (.int .u8 0)) :
    KVi w' L pl ps cs (zeroM S i x.regs (j + 1)) := by
  have hr : x.regs[j]? = some x.regs[j] := List.getElem?_eq_getElem hj
  have hg := regG_of (hok.1 _ (List.getElem_mem hj))
  refine h.setBytes hx hr (zeroM S i x.regs (j + 1)).mem arr hw hb (fun k hk => ?_) (fun q y hy l t ht hne k hk => ?_)
  · have hh : hitA x.regs[j] (64 * x.regs[j].page + k) := by unfold hitA; omega
    have e : (zeroM S i x.regs (j + 1)).mem i (64 * x.regs[j].page + k) = 0 := by
      show (if i = i ∧ _ then _ else _) = _
      rw [if_pos ⟨rfl, by rw [any_step _ _ hj]; simp [hh]⟩]
    rw [e]
    exact ⟨ha k hk, by omega, by omega⟩
  · show (if q = i ∧ _ then _ else _) = if q = i ∧ _ then _ else _
    by_cases hq : q = i
    · subst hq
      have hlj : l ≠ j := by rcases hne with e | e; exact absurd rfl e; exact e
      rw [hx] at hy
      cases hy
      obtain ⟨hl, rfl⟩ := List.getElem?_eq_some_iff.1 ht
      have hh : hitA x.regs[l] (64 * x.regs[l].page + k) := by
        have := regG_of (hok.1 _ (List.getElem_mem hl))
        have := this.pages
        unfold hitA; omega
      have hnh := regs_apart hok hl hj hlj hh
      rw [any_step _ _ hj]
      simp [hnh]
    · rw [if_neg (fun e => hq e.1), if_neg (fun e => hq e.1)]
set_option maxRecDepth 100000 in
set_option maxHeartbeats 2000000 in
theorem clear_any (h : KVi w L pl ps cs S) {i : Nat} {x : PartD} (hx : ps[i]? = some x) (hok : RegsOK x.regs) (hrl : x.regs.length ≤ 4) :
    Calls Tryz.prog 233 #[ptrV (L.pb i)] w fun e w' => e = .returned (.tuple #[]) ∧ KVi w' L pl ps cs (zeroM S i x.regs x.regs.length) ∧ Fx L w w' := by
  have c3 : w.cell? ⟨L.pb i, 3, none⟩ = some (L.rv i) := by rw [cell_of_blk (h.s.part i x hx).2]; rfl
  obtain ⟨va, cap, erv, hrow⟩ := h.s.regs i x hx
  rw [erv] at c3
  have HH : Hid (KVi w L pl ps cs S) := h
  have HX : Hid (ps[i]? = some x) := hx
  have HOK : Hid (RegsOK x.regs) := hok
  have ERV : Hid (L.rv i = .slice va x.regs.length cap) := erv
  clear h hx hok hrow erv
  unfold ptrV
  go_enter Tryz.func233, Tryz.ntmps233
  go_wp2_with fail
  go_loopw [9] (fun v wr => ∃ (j : Nat), v = .int .i64 j ∧ j ≤ x.regs.length ∧ Hid (KVi wr L pl ps cs (zeroM S i x.regs j)) ∧ Hid (Fx L w wr)) (fun v _ => x.regs.length - (intOf v).toNat)
  case atStart => exact ⟨0, rfl, by omega, by rw [zeroM_zero]; exact HH, Fx.refl _ _⟩
  case round =>
    obtain ⟨j, rfl, hj, HK, HF⟩ := hrel
    by_cases hlt : j < x.regs.length
    · have hlt' : (j : Int) < (x.regs.length : Int) := by omega
      have hj0 : (0 : Int) ≤ (j : Int) := by omega
      have hr : x.regs[j]? = some x.regs[j] := List.getElem?_eq_getElem hlt
      obtain ⟨va2, cap2, e2, hrow⟩ := HK.out.s.regs i x HX.out
      rw [ERV.out] at e2
      obtain ⟨rfl, rfl⟩ : va = va2 ∧ cap = cap2 := by cases e2; exact ⟨rfl, rfl⟩
      obtain ⟨g, rfl, _, hcell⟩ := hrow j hlt
      unfold ptrV at hcell
      have d1 := (HK.out.s.cReg HX.out hr).2.1
      obtain ⟨arr, hm1, hm2⟩ := HK.out.s.mem i x HX.out j _ hr
      have hro := (HK.out.s.reg i x HX.out j _ hr).2.2.1
      have hg := (regG_of (HOK.out.1 _ (List.getElem_mem hlt))).pages
      have hcl : ∀ ty, (Builtin.clear_ #[63] ty #[.slice (some ⟨L.mb i j, 0, none⟩) (64 * x.regs[j].pages).toNat (L.mc i j)]).run Tryz.prog wr = .ok (.tuple #[]) (wr.setCells (L.mb i j) 0 (List.replicate (64 * x.regs[j].pages).toNat (.int .u8 0))) :=
        fun ty => Lib.run_clear_slice wr 63 5 ty (.int .u8 0) Tryz.underlying63 (fun w => Tryz.zeroValue5 w) rfl rfl (L.mb i j) 0 _ _ (by omega) (fun t ht => by rw [Nat.zero_add, cell_of_blk hm1, (hm2 t (by omega)).1]; rfl) (fun t ht => frozen_of_blk hm1)
      have HK2 : Hid (KVi (wr.setCells (L.mb i j) 0 (List.replicate (64 * x.regs[j].pages).toNat (.int .u8 0))) L pl ps cs (zeroM S i x.regs (j + 1))) := by
        obtain ⟨arr2, ha1, ha2⟩ := blk_many (L.mb i j) (List.replicate (64 * x.regs[j].pages).toNat (.int .u8 0)) 0 wr arr 5 (0, 0) hm1
        refine KVi.zeroStep i x j HK.out HX.out HOK.out hlt (fun b _ hne => far_many _ hne _ _ _) arr2 ha1 (fun k hk => ?_)
        have hk2 : k < (List.replicate (64 * x.regs[j].pages).toNat (Value.int .u8 0)).length := by rw [List.length_replicate]; omega
        have := World.cell?_setCells_in (L.mb i j) (List.replicate (64 * x.regs[j].pages).toNat (Value.int .u8 0)) 0 wr (fun t ht => by rw [List.length_replicate] at ht; rw [Nat.zero_add, cell_of_blk hm1, (hm2 t (by omega)).1]; rfl) k hk2
        rw [Nat.zero_add, cell_of_blk ha1, List.getElem_replicate] at this
        exact this
      have HF2 : Hid (Fx L w (wr.setCells (L.mb i j) 0 (List.replicate (64 * x.regs[j].pages).toNat (.int .u8 0)))) := HF.out.many hro (by simp) _ _
      clear hm1 hm2 hrow hro hr
      generalize (64 * x.regs[j].pages).toNat = ln at *
      go_wp2_with fail
      exact ⟨⟨j + 1, by go_num, by omega, HK2, HF2⟩, by simp [intOf]; omega⟩
    · have hlt' : ¬ (j : Int) < (x.regs.length : Int) := by omega
      have he : j = x.regs.length := by omega
      go_wp2_with fail
      go_end0
      refine ⟨rfl, ?_, HF.out⟩
      rw [← he]
      exact HK.out
/- a channel is emptied -/
theorem KVi.emptied (h : KVi w L pl ps cs S) {c : Nat} {y : ChanD} (hy : cs[c]? = some y) : KVi (w.setCell ⟨L.cb c, 5, none⟩ (.slice none 0 0)) L pl ps cs (setCh S c []) ∧ Fx L w (w.setCell ⟨L.cb c, 5, none⟩ (.slice none 0 0)) := by
  obtain ⟨mv, age, h1, h2, h3, h4, h5, h6⟩ := h.chan c y hy
  refine ⟨?_, (Fx.refl _ _).set h1 (by simp) _ _⟩
  refine h.setChan hy L.rl (fun _ _ => rfl) (fun b hb => by simpa using h.s.low b hb) (fun b hb hne _ => blk_far 5 _ hne) (.slice none 0 0) age [] (by rw [blk_set 5 _ h2]; rfl) ⟨[], rfl, World.ownsRow_nil _ _ _ _, (fun b hb => by cases hb), (fun k hk => by simp at hk)⟩ ?_ (fun m hm => by cases hm) ?_
  · obtain ⟨a1, a2, a3⟩ := h4
    have e : (setCh S c []).chs c = [] := by show (if c = c then [] else S.chs c) = []; rw [if_pos rfl]
    refine ⟨a1, a2, fun hk => ⟨by rw [e]; simp, fun m hm => by rw [e] at hm; cases hm⟩⟩
  · have := (Int.natCast_nonneg (S.chs c).length)
    simp only [List.length_nil]
    omega
set_option maxRecDepth 100000 in
set_option maxHeartbeats 1000000 in
theorem empty_any (h : KVi w L pl ps cs S) {c : Nat} {y : ChanD} (hy : cs[c]? = some y) :
    Calls Tryz.prog 126 #[ptrV (L.cb c)] w fun e w' => e = .returned (.tuple #[]) ∧ KVi w' L pl ps cs (setCh S c []) ∧ Fx L w w' := by
  have HE : Hid _ := h.emptied hy
  obtain ⟨mv, age, h1, h2, h3, h4⟩ := h.chan c y hy
  have c5 : w.cell? ⟨L.cb c, 5, none⟩ = some mv := by rw [cell_of_blk h2]; rfl
  have f5 : w.frozen? ⟨L.cb c, 5, none⟩ = false := frozen_of_blk h2
  clear h h1 h2 h3 h4
  unfold ptrV
  go_enter Tryz.func126, Tryz.ntmps126
  go_wp2_with fail
  go_end0
  exact ⟨rfl, HE.out⟩
end
end Go.Proofs.YteioennfpkoagaaGreatDoor.C
namespace Go.Proofs.YteioennfpkoagaaGreatDoor.C
open Go.RowKit K
attribute [local go_sem ↓] Go.wp_at_zero Go.wp_at_succ

section
variable {w w' : World} {L : Lay} {D : ManD} {S : KS} {pl : List Int} {ps : List PartD} {cs : List ChanD} {tm : Nat}
/- the channels that were gone through are empty -/
def emptM (S : KS) (g : Nat → Nat) (k : Nat) : KS := { S with chs := fun d => if (List.range k).any (fun j => g j == d) = true then [] else S.chs d }
theorem emptM_step (S : KS) (g : Nat → Nat) (k d : Nat) : (emptM S g (k + 1)).chs d = (setCh (emptM S g k) (g k) []).chs d := by
  show (if (List.range (k + 1)).any (fun j => g j == d) = true then [] else S.chs d) = if d = g k then [] else if (List.range k).any (fun j => g j == d) = true then [] else S.chs d
  rw [List.range_succ, List.any_append]
  by_cases h : d = g k
  · subst h; simp
  · have : (g k == d) = false := by simpa using fun e => h e.symm
    simp [this, h]
set_option maxRecDepth 100000 in
set_option maxHeartbeats 2000000 in
theorem react_stop (h : KVi w L pl ps cs S) {i : Nat} {x : PartD} (hx : ps[i]? = some x) (b : Nat) (hb : w.heap[b]? = some (.cells #[ptrV (L.pb i)] 137)) :
    Calls Tryz.prog 231 #[ptrV b] w fun e w' => e = .returned (.tuple #[]) ∧ KVi w' L pl ps cs (setSt S i ⟨true, (S.sts i).faults, (S.sts i).restarts⟩) ∧ Fx L w w' := by
  obtain ⟨h1, h2⟩ := h.s.part i x hx
  have c0 : w.cell? ⟨L.pb i, 0, none⟩ = some (.bool (S.sts i).stopped) := by rw [cell_of_blk h2]; rfl
  have f0 : w.frozen? ⟨L.pb i, 0, none⟩ = false := frozen_of_blk h2
  have cb : w.cell? ⟨b, 0, none⟩ = some (.pointer (some ⟨L.pb i, 0, none⟩)) := by rw [cell_of_blk hb]; rfl
  have HK : Hid (KVi (w.setCell ⟨L.pb i, 0, none⟩ (.bool true)) L pl ps cs (setSt S i ⟨true, (S.sts i).faults, (S.sts i).restarts⟩)) := h.setPart hx _ (fun q _ hne => blk_far 0 _ hne) (by rw [blk_set 0 _ h2]; rfl)
  have HF : Hid (Fx L w (w.setCell ⟨L.pb i, 0, none⟩ (.bool true))) := (Fx.refl _ _).set h1 (by simp) _ _
  clear h h1 h2 hb
  unfold ptrV
  go_enter Tryz.func231, Tryz.ntmps231
  go_wp2_with fail
  go_end0
  exact ⟨rfl, HK.out, HF.out⟩
set_option maxRecDepth 100000 in
set_option maxHeartbeats 2000000 in
theorem react_none (w : World) : Calls Tryz.prog 234 #[] w fun e w' => e = .returned (.tuple #[]) ∧ w' = w := by
  go_enter Tryz.func234, Tryz.ntmps234
  go_wp2_with fail
  go_end0
  exact ⟨rfl, rfl⟩
set_option maxRecDepth 100000 in
set_option maxHeartbeats 4000000 in
theorem react_again (h : KVi w L pl ps cs S) {i : Nat} {x : PartD} (hx : ps[i]? = some x) (hok : RegsOK x.regs) (hrl : x.regs.length ≤ 4) (hsm : 0 ≤ (S.sts i).restarts ∧ (S.sts i).restarts ≤ 4611686018427387904) (b c : Nat) (iv : Value) (n : Nat) (g : Nat → Nat)
    (hfb : L.fix b) (hfc : L.fix c) (hb : w.heap[b]? = some (.cells #[ptrV (L.pb i)] 137)) (hc : w.heap[c]? = some (.cells #[iv] 139)) (hrow : RowF w L.fix iv n (fun k => ptrV (L.cb (g k)))) (hg : ∀ k, k < n → ∃ y, cs[g k]? = some y ∧ y.target = (i : Int)) (hn : n ≤ 255) :
    Calls Tryz.prog 232 #[ptrV b, ptrV c] w fun e w' => e = .returned (.tuple #[]) ∧ KVi w' L pl ps cs (setSt (emptM (zeroM S i x.regs x.regs.length) g n) i ⟨(S.sts i).stopped, (S.sts i).faults, (S.sts i).restarts + 1⟩) ∧ Fx L w w' := by
  have HB : Hid (w.heap[b]? = some (.cells #[ptrV (L.pb i)] 137)) := hb
  have HC : Hid (w.heap[c]? = some (.cells #[iv] 139)) := hc
  have HROW : Hid (RowF w L.fix iv n (fun k => ptrV (L.cb (g k)))) := hrow
  have HG : Hid (∀ k, k < n → ∃ y, cs[g k]? = some y ∧ y.target = (i : Int)) := hg
  have cb : w.cell? ⟨b, 0, none⟩ = some (.pointer (some ⟨L.pb i, 0, none⟩)) := by rw [cell_of_blk hb]; rfl
  have HCL : Hid _ := clear_any h hx hok hrl
  have HX : Hid (ps[i]? = some x) := hx
  obtain ⟨va, cap, rfl, hx9⟩ := hrow
  clear hx9
  have HFB : Hid (L.fix b) := hfb
  have HFC : Hid (L.fix c) := hfc
  clear h hx hok hb hc hg hfb hfc
  unfold ptrV at HCL ⊢
  go_enter Tryz.func232, Tryz.ntmps232
  go_wp2_with fail
  refine Calls.mono HCL.out ?_
  rintro e w1 ⟨rfl, hk1, hf1⟩
  have HK1 : Hid (KVi w1 L pl ps cs (zeroM S i x.regs x.regs.length)) := hk1
  have HF1 : Hid (Fx L w w1) := hf1
  have HC1 : Hid (w1.heap[c]? = some (.cells #[.slice va n cap] 139)) := (hf1.fix c HFC.out (lt_of_blk HC.out)).trans HC.out
  have HB1 : Hid (w1.heap[b]? = some (.cells #[ptrV (L.pb i)] 137)) := (hf1.fix b HFB.out (lt_of_blk HB.out)).trans HB.out
  have c1 : w1.cell? ⟨c, 0, none⟩ = some (.slice va n cap) := by rw [cell_of_blk HC1.out]; rfl
  have hrow1 : RowF w1 L.fix (.slice va n cap) n (fun k => ptrV (L.cb (g k))) := HROW.out.keep2 fun b hb hl => hf1.fix b hb hl
  have HROW1 : Hid (RowF w1 L.fix (.slice va n cap) n (fun k => ptrV (L.cb (g k)))) := hrow1
  clear hk1 hf1 hrow1 HCL
  go_wp2_with fail
  go_loopw [8] (fun v wr => ∃ (k : Nat), v = .int .i64 k ∧ k ≤ n ∧ Hid (KVi wr L pl ps cs (emptM (zeroM S i x.regs x.regs.length) g k)) ∧ Hid (Fx L w1 wr)) (fun v _ => n - (intOf v).toNat)
  case atStart => exact ⟨0, rfl, by omega, HK1.out.congr rfl (fun _ => rfl) (fun d => by simp [emptM]) (fun _ _ _ _ _ _ _ _ => rfl), Fx.refl _ _⟩
  case round =>
    obtain ⟨k, rfl, hk, HK, HF⟩ := hrel
    by_cases hlt : k < n
    · have hlt' : (k : Int) < (n : Int) := by omega
      have hk0 : (0 : Int) ≤ (k : Int) := by omega
      have hrow2 : RowF wr L.fix (.slice va n cap) n (fun k => ptrV (L.cb (g k))) := HROW1.out.keep2 fun b hb hl => HF.out.fix b hb hl
      obtain ⟨va2, cap2, e2, hrow3⟩ := hrow2
      obtain ⟨rfl, rfl⟩ : va = va2 ∧ cap = cap2 := by cases e2; exact ⟨rfl, rfl⟩
      obtain ⟨g2, rfl, _, hcell⟩ := hrow3 k hlt
      obtain ⟨y, hy, _⟩ := HG.out k hlt
      have HEM : Hid _ := empty_any HK.out hy
      unfold ptrV at hcell HEM
      clear hrow3
      go_wp2_with fail
      refine Calls.mono HEM.out ?_
      rintro e w2 ⟨rfl, hk2, hf2⟩
      go_wp2_with fail
      exact ⟨⟨k + 1, by go_num, by omega, hk2.congr rfl (fun _ => rfl) (fun d => emptM_step _ _ _ _) (fun _ _ _ _ _ _ _ _ => rfl), HF.out.trans hf2⟩, by simp [intOf]; omega⟩
    · have hlt' : ¬ (k : Int) < (n : Int) := by omega
      have he : k = n := by omega
      subst he
      obtain ⟨h1, h2⟩ := HK.out.s.part i x HX.out
      have hb3 : wr.heap[b]? = some (.cells #[ptrV (L.pb i)] 137) := (HF.out.fix b HFB.out (lt_of_blk HB1.out)).trans HB1.out
      have cb3 : wr.cell? ⟨b, 0, none⟩ = some (.pointer (some ⟨L.pb i, 0, none⟩)) := by rw [cell_of_blk hb3]; rfl
      have HS : Hid ((emptM (zeroM S i x.regs x.regs.length) g k).sts i = S.sts i) := rfl
      rw [HS.out] at h2
      have c2 : wr.cell? ⟨L.pb i, 2, none⟩ = some (.int .i64 (S.sts i).restarts) := by rw [cell_of_blk h2]; rfl
      have f2 : wr.frozen? ⟨L.pb i, 2, none⟩ = false := frozen_of_blk h2
      have HK3 : Hid (KVi (wr.setCell ⟨L.pb i, 2, none⟩ (.int .i64 ((S.sts i).restarts + 1))) L pl ps cs (setSt (emptM (zeroM S i x.regs x.regs.length) g k) i ⟨(S.sts i).stopped, (S.sts i).faults, (S.sts i).restarts + 1⟩)) := HK.out.setPart HX.out _ (fun q _ hne => blk_far 2 _ hne) (by rw [blk_set 2 _ h2]; rfl)
      have HF3 : Hid (Fx L w (wr.setCell ⟨L.pb i, 2, none⟩ (.int .i64 ((S.sts i).restarts + 1)))) := (HF1.out.trans HF.out).set h1 (by simp) _ _
      clear h2 hb3 h1
      go_wp2_with fail
      go_end0
      exact ⟨rfl, HK3.out, HF3.out⟩
end
end Go.Proofs.YteioennfpkoagaaGreatDoor.C
namespace Go.Proofs.YteioennfpkoagaaGreatDoor.C
open Go.RowKit K
attribute [local go_sem ↓] Go.wp_at_zero Go.wp_at_succ

section
variable {w w' : World} {L : Lay} {D : ManD} {S : KS}
theorem actF_ofK {i : Nat} {x : PartD} (hx : D.parts[i]? = some x) : actF D i = x.action := by unfold actF; rw [hx]; rfl
def faultS (S : KS) (i : Nat) : KS := setSt S i ⟨(S.sts i).stopped, (S.sts i).faults + 1, (S.sts i).restarts⟩
theorem setSt_at (S : KS) (i : Nat) (s : StD) : (setSt S i s).sts i = s := by show (if i = i then s else S.sts i) = s; rw [if_pos rfl]
theorem setSt_ne (S : KS) {i q : Nat} (s : StD) (h : q ≠ i) : (setSt S i s).sts q = S.sts q := by show (if q = i then s else S.sts q) = _; rw [if_neg h]
theorem fail_stsK {i : Nat} (S : KS) (q : Nat) : (failF D S i).sts q = if q = i then failSt (actF D i) (S.sts q) else S.sts q := rfl
set_option maxRecDepth 100000 in
set_option maxHeartbeats 4000000 in
theorem fail_any (hz : checkF D = 0) (h : KVi w L (planF D) D.parts D.chans S) (hs : SmallK bigK S) {i : Nat} (hi : i < D.parts.length) :
    Calls Tryz.prog 69 #[ptrV (L.pb i)] w fun e w' => e = .returned (.tuple #[]) ∧ KVi w' L (planF D) D.parts D.chans (failF D S i) ∧ Fx L w w' := by
  obtain ⟨x, hx⟩ : ∃ x, D.parts[i]? = some x := ⟨_, List.getElem?_eq_getElem hi⟩
  obtain ⟨hact, hok, hrl⟩ := part_regs hz hx
  obtain ⟨h1, h2⟩ := h.s.part i x hx
  have hfl := hs.flt i
  have hre := hs.res i
  unfold bigK at hfl hre
  have c1 : w.cell? ⟨L.pb i, 1, none⟩ = some (.int .i64 (S.sts i).faults) := by rw [cell_of_blk h2]; rfl
  have f1 : w.frozen? ⟨L.pb i, 1, none⟩ = false := frozen_of_blk h2
  have HB1 : Hid ((w.setCell ⟨L.pb i, 1, none⟩ (.int .i64 ((S.sts i).faults + 1))).heap[L.pb i]? = some (.cells (partB L i ⟨(S.sts i).stopped, (S.sts i).faults + 1, (S.sts i).restarts⟩) 136)) := by
    show _ = _
    rw [blk_set 1 _ h2]; rfl
  have c4 : (w.setCell ⟨L.pb i, 1, none⟩ (.int .i64 ((S.sts i).faults + 1))).cell? ⟨L.pb i, 4, none⟩ = some (L.fv i) := by rw [cell_of_blk HB1.out]; rfl
  have HK1 : Hid (KVi (w.setCell ⟨L.pb i, 1, none⟩ (.int .i64 ((S.sts i).faults + 1))) L (planF D) D.parts D.chans (faultS S i)) := h.setPart hx _ (fun q _ hne => blk_far 1 _ hne) HB1.out
  have HF1 : Hid (Fx L w (w.setCell ⟨L.pb i, 1, none⟩ (.int .i64 ((S.sts i).faults + 1)))) := (Fx.refl _ _).set h1 (by simp) _ _
  have HACT : Hid (actF D i = x.action) := actF_ofK hx
  have HX : Hid (D.parts[i]? = some x) := hx
  have hrt := HK1.out.s.react i x hx
  obtain ⟨fl, hfe⟩ : ∃ fl, (S.sts i).faults = fl := ⟨_, rfl⟩
  have HFE : Hid ((S.sts i).faults = fl) := hfe
  rw [hfe] at c1 c4 HK1 HF1 hfl hrt
  have HST : Hid ((faultS S i).sts i = ⟨(S.sts i).stopped, (S.sts i).faults + 1, (S.sts i).restarts⟩) := setSt_at _ _ _
  clear h h1 h2 hs HB1 hfe
  rcases hrt with ⟨ha, hv⟩ | ⟨ha, b, hfx, hv, hb⟩ | ⟨ha, b, c, iv, n, g, hfx, hfc, hv, hb, hc, hrow, hg1, hg2, hn⟩
  · rw [hv] at c4
    unfold ptrV
    go_enter Tryz.func69, Tryz.ntmps69
    go_wp2_with fail
    generalize w.setCell ⟨L.pb i, 1, none⟩ (.int .i64 (fl + 1)) = W1 at *
    refine Calls.mono (react_none W1) ?_
    rintro e w2 ⟨rfl, rfl⟩
    go_wp2_with fail
    go_end0
    refine ⟨rfl, HK1.out.congr rfl (fun q => ?_) (fun d => ?_) (fun q y hy j r hr k hk => ?_), HF1.out⟩
    · rw [fail_stsK, HACT.out, ha]
      by_cases hq : q = i
      · subst hq
        rw [if_pos rfl, HST.out]
        simp [failSt]
      · rw [if_neg hq]; exact (setSt_ne _ _ hq).symm
    · show (if actF D i = 3 ∧ _ then _ else _) = _
      rw [if_neg (by rw [HACT.out, ha]; simp)]; rfl
    · show (if q = i ∧ actF D i = 3 then _ else _) = _
      rw [if_neg (by rw [HACT.out, ha]; simp)]; rfl
  · rw [hv] at c4
    unfold ptrV at c4
    go_enter Tryz.func69, Tryz.ntmps69
    have HRS : Hid _ := react_stop HK1.out hx b hb
    unfold ptrV at HRS ⊢
    go_wp2_with fail
    generalize w.setCell ⟨L.pb i, 1, none⟩ (.int .i64 (fl + 1)) = W1 at *
    refine Calls.mono HRS.out ?_
    rintro e w2 ⟨rfl, hk2, hf2⟩
    go_wp2_with fail
    go_end0
    refine ⟨rfl, hk2.congr rfl (fun q => ?_) (fun d => ?_) (fun q y hy j r hr k hk => ?_), HF1.out.trans hf2⟩
    · rw [fail_stsK, HACT.out, ha]
      by_cases hq : q = i
      · subst hq
        rw [if_pos rfl, setSt_at, HST.out]
        simp [failSt]
      · rw [if_neg hq, setSt_ne _ _ hq]; exact (setSt_ne _ _ hq).symm
    · show (if actF D i = 3 ∧ _ then _ else _) = _
      rw [if_neg (by rw [HACT.out, ha]; simp)]; rfl
    · show (if q = i ∧ actF D i = 3 then _ else _) = _
      rw [if_neg (by rw [HACT.out, ha]; simp)]; rfl
  · rw [hv] at c4
    unfold ptrV at c4
    go_enter Tryz.func69, Tryz.ntmps69
    have HRS : Hid _ := react_again HK1.out hx hok hrl (by rw [HST.out]; exact ⟨hre.1, by have := hre.2; simp only [] at this ⊢; omega⟩) b c iv n g hfx hfc hb hc hrow hg1 hn
    unfold ptrV at HRS ⊢
    go_wp2_with fail
    generalize w.setCell ⟨L.pb i, 1, none⟩ (.int .i64 (fl + 1)) = W1 at *
    refine Calls.mono HRS.out ?_
    rintro e w2 ⟨rfl, hk2, hf2⟩
    go_wp2_with fail
    go_end0
    refine ⟨rfl, hk2.congr rfl (fun q => ?_) (fun d => ?_) (fun q y hy j r hr k hk => ?_), HF1.out.trans hf2⟩
    · rw [fail_stsK, HACT.out, ha]
      by_cases hq : q = i
      · subst hq
        rw [if_pos rfl, setSt_at, HST.out]
        simp [failSt]
      · rw [if_neg hq, setSt_ne _ _ hq]; exact (setSt_ne _ _ hq).symm
    · show (if actF D i = 3 ∧ (D.chans[d]?.map ChanD.target) = some (i : Int) then [] else S.chs d) = if (List.range n).any (fun j => g j == d) = true then [] else S.chs d
      by_cases he : (D.chans[d]?.map ChanD.target) = some (i : Int)
      · rw [if_pos ⟨by rw [HACT.out, ha], he⟩]
        obtain ⟨y, hy, hy2⟩ := Option.map_eq_some_iff.1 he
        obtain ⟨k, hk1, hk2⟩ := hg2 d y hy hy2
        rw [if_pos (List.any_eq_true.2 ⟨k, List.mem_range.2 hk1, by simp [hk2]⟩)]
      · rw [if_neg (fun e => he e.2), if_neg]
        intro e
        obtain ⟨k, hk1, hk2⟩ := List.any_eq_true.1 e
        have hk3 : g k = d := by simpa using hk2
        obtain ⟨y, hy, hy2⟩ := hg1 k (List.mem_range.1 hk1)
        rw [hk3] at hy
        exact he (by rw [hy, ← hy2]; rfl)
    · show (if q = i ∧ actF D i = 3 then 0 else S.mem q _) = if q = i ∧ _ then 0 else S.mem q _
      by_cases hq : q = i
      · subst hq
        rw [HX.out] at hy
        cases hy
        obtain ⟨hj, rfl⟩ := List.getElem?_eq_some_iff.1 hr
        have hg := (regG_of (hok.1 _ (List.getElem_mem hj))).pages
        have hany : (x.regs.take x.regs.length).any (fun r => decide (hitA r (64 * x.regs[j].page + k))) = true := by
          rw [List.take_length]
          exact List.any_eq_true.2 ⟨_, List.getElem_mem hj, decide_eq_true (by unfold hitA; omega)⟩
        rw [if_pos ⟨rfl, by rw [HACT.out, ha]⟩, if_pos ⟨rfl, hany⟩]
      · rw [if_neg (fun e => hq e.1), if_neg (fun e => hq e.1)]
end
end Go.Proofs.YteioennfpkoagaaGreatDoor.C
namespace Go.Proofs.YteioennfpkoagaaGreatDoor.C
open Go.RowKit K
attribute [local go_sem ↓] Go.wp_at_zero Go.wp_at_succ

section
variable {w w' : World} {L : Lay} {D : ManD} {S : KS}
set_option maxRecDepth 100000 in
set_option maxHeartbeats 2000000 in
theorem krunning_any (hz : checkF D = 0) (h : KVi w L (planF D) D.parts D.chans S) :
    Calls Tryz.prog 35 #[ptrV L.kb] w fun e w' => e = .returned (.int .i64 (runF D S)) ∧ Below w.heap.size w w' := by
  have hco := check_ok hz
  have hn : D.parts.length ≤ 8 := hco.2.2.1
  obtain ⟨hl, hl1, hl2, hwho, hlt⟩ := who_plan (S := S) hz
  obtain ⟨va, cap, _, c0, cp⟩ := h.s.cPlan
  obtain ⟨g, rfl, ct⟩ := cp _ hlt
  rw [hwho] at ct
  have c1 := h.s.cTick
  obtain ⟨vb, capb, c2, cq⟩ := h.s.cParts
  have HPT : Hid (∀ i, i < D.parts.length → w.cell? ⟨L.pb i, 0, none⟩ = some (.bool (S.sts i).stopped)) := fun i hi => by
    have h1 := (h.s.part i _ (List.getElem?_eq_getElem hi)).2
    rw [cell_of_blk h1]; rfl
  have HCQ : Hid _ := cq
  have hin : -1 ≤ whoF D S ∧ whoF D S < D.parts.length := tick_in D.parts _
  have HR : Hid (runF D S = if 0 ≤ whoF D S ∧ (S.sts (whoF D S).toNat).stopped = true then -1 else whoF D S) := rfl
  clear cp cq h hco hz hwho
  generalize whoF D S = wv at *
  generalize hk : S.time % (planF D).length = k at *
  clear hk
  generalize (planF D).length = plen at *
  have hk0 : (0 : Int) ≤ (k : Int) := by omega
  have hk1 : (k : Int) < (plen : Int) := by omega
  unfold ptrV at *
  by_cases hw : wv = -1
  · subst hw
    go_enter Tryz.func35, Tryz.ntmps35
    go_wp2_with fail
    go_quiet (fail)
    go_wp2_with fail
    go_ret
    exact ⟨by rw [HR.out]; simp, below_drewN (Below.refl _ _) _⟩
  · obtain ⟨i, rfl⟩ : ∃ i : Nat, wv = i := ⟨wv.toNat, by omega⟩
    have hi : i < D.parts.length := by omega
    have hi' : (i : Int) < (D.parts.length : Int) := by omega
    have hi0 : (0 : Int) ≤ (i : Int) := by omega
    have s0 := HPT.out i hi
    obtain ⟨gb, rfl, cb⟩ := HCQ.out i hi
    have HR2 : Hid (runF D S = if (S.sts i).stopped = true then -1 else (i : Int)) := by
      show _ = _
      rw [HR.out, Int.toNat_natCast]
      by_cases hst : (S.sts i).stopped = true
      · rw [if_pos ⟨hi0, hst⟩, if_pos hst]
      · rw [if_neg (fun e => hst e.2), if_neg hst]
    clear HPT HCQ HR
    generalize (S.sts i).stopped = st at *
    cases st
    · go_enter Tryz.func35, Tryz.ntmps35
      go_wp2_with fail
      go_quiet (fail)
      go_wp2_with fail
      go_ret
      exact ⟨by rw [HR2.out]; simp, below_drewN (Below.refl _ _) _⟩
    · go_enter Tryz.func35, Tryz.ntmps35
      go_wp2_with fail
      go_quiet (fail)
      go_wp2_with fail
      go_ret
      exact ⟨by rw [HR2.out]; simp, below_drewN (Below.refl _ _) _⟩
set_option maxRecDepth 100000 in
set_option maxHeartbeats 2000000 in
theorem kstate_any (hz : checkF D = 0) (h : KVi w L (planF D) D.parts D.chans S) (p : Int) (hp : inR p) :
    Calls Tryz.prog 28 #[ptrV L.kb, .int .i64 p] w fun e w' => e = .returned (.tuple #[stV (stateF D S p).1, .int .i64 (stateF D S p).2]) ∧ Below w.heap.size w w' := by
  have hn : D.parts.length ≤ 8 := (check_ok hz).2.2.1
  have b0 := newB w (.cells #[.bool false, .int .i64 0, .int .i64 0] 76)
  have HN : Hid _ := heap_new w (.cells #[.bool false, .int .i64 0, .int .i64 0] 76)
  have h := h.keep fun b hb => b0.block b (h.s.low b hb)
  have HB0 : Hid _ := b0
  have HHAS : Hid _ := has_any h.s p hp (by omega)
  obtain ⟨vb, capb, c2, cq⟩ := h.s.cParts
  have HPT : Hid (∀ i, i < D.parts.length → (w.alloc (.cells #[.bool false, .int .i64 0, .int .i64 0] 76)).cell? ⟨L.pb i, 0, none⟩ = some (.bool (S.sts i).stopped) ∧ (w.alloc (.cells #[.bool false, .int .i64 0, .int .i64 0] 76)).cell? ⟨L.pb i, 1, none⟩ = some (.int .i64 (S.sts i).faults) ∧ (w.alloc (.cells #[.bool false, .int .i64 0, .int .i64 0] 76)).cell? ⟨L.pb i, 2, none⟩ = some (.int .i64 (S.sts i).restarts)) := fun i hi => by
    have h1 := (h.s.part i _ (List.getElem?_eq_getElem hi)).2
    refine ⟨?_, ?_, ?_⟩ <;> rw [cell_of_blk h1] <;> rfl
  have HCQ : Hid _ := cq
  clear cq h hz b0
  rcases (show (p < 0 ∨ (D.parts.length : Int) ≤ p) ∨ (0 ≤ p ∧ p < (D.parts.length : Int)) by omega) with h1 | ⟨h1, h2⟩
  · have HT : Hid (stateF D S p = (⟨false, 0, 0⟩, 19)) := by show _ = _; unfold stateF; rw [if_pos h1]
    have hb : decide (0 ≤ p ∧ p < (D.parts.length : Int)) = false := by simp; omega
    rw [hb] at HHAS
    unfold ptrV at *
    go_enter Tryz.func28, Tryz.ntmps28
    go_wp2_with fail
    refine Calls.mono HHAS.out ?_
    rintro e w' ⟨rfl, rfl⟩
    generalize w.alloc (.cells #[.bool false, .int .i64 0, .int .i64 0] 76) = W0 at *
    have n0 : W0.cell? ⟨w.heap.size, 0, none⟩ = some (.bool false) := by rw [cell_of_blk HN.out]; rfl
    have n1 : W0.cell? ⟨w.heap.size, 1, none⟩ = some (.int .i64 0) := by rw [cell_of_blk HN.out]; rfl
    have n2 : W0.cell? ⟨w.heap.size, 2, none⟩ = some (.int .i64 0) := by rw [cell_of_blk HN.out]; rfl
    have g0 : W0.frozen? ⟨w.heap.size, 0, none⟩ = false := frozen_of_blk HN.out
    have g1 : W0.frozen? ⟨w.heap.size, 1, none⟩ = false := frozen_of_blk HN.out
    have g2 : W0.frozen? ⟨w.heap.size, 2, none⟩ = false := frozen_of_blk HN.out
    go_wp2_with fail
    have hn3 : (((W0.setCell ⟨w.heap.size, 0, none⟩ (.bool false)).setCell ⟨w.heap.size, 1, none⟩ (.int .i64 0)).setCell ⟨w.heap.size, 2, none⟩ (.int .i64 0)).heap[w.heap.size]? = some (.cells #[.bool false, .int .i64 0, .int .i64 0] 76 (0, 0)) := blk_set 2 _ (blk_set 1 _ (blk_set 0 _ HN.out))
    have hb3 : Below w.heap.size w (((W0.setCell ⟨w.heap.size, 0, none⟩ (.bool false)).setCell ⟨w.heap.size, 1, none⟩ (.int .i64 0)).setCell ⟨w.heap.size, 2, none⟩ (.int .i64 0)) := ((HB0.out.setCell (p := ⟨w.heap.size, 0, none⟩) (Nat.le_refl _) _).setCell (p := ⟨w.heap.size, 1, none⟩) (Nat.le_refl _) _).setCell (p := ⟨w.heap.size, 2, none⟩) (Nat.le_refl _) _
    clear n0 n1 n2 g0 g1 g2
    generalize (((W0.setCell ⟨w.heap.size, 0, none⟩ (.bool false)).setCell ⟨w.heap.size, 1, none⟩ (.int .i64 0)).setCell ⟨w.heap.size, 2, none⟩ (.int .i64 0)) = W3 at *
    have n0 : W3.cell? ⟨w.heap.size, 0, none⟩ = some (.bool false) := by rw [cell_of_blk hn3]; rfl
    have n1 : W3.cell? ⟨w.heap.size, 1, none⟩ = some (.int .i64 0) := by rw [cell_of_blk hn3]; rfl
    have n2 : W3.cell? ⟨w.heap.size, 2, none⟩ = some (.int .i64 0) := by rw [cell_of_blk hn3]; rfl
    refine bodyPost_ret (v := .tuple #[.agg #[.bool false, .int .i64 0, .int .i64 0], .int .i64 19]) (by simp [results, Tryz.results28, go_sem, n0, n1, n2]) rfl ⟨by rw [HT.out]; rfl, hb3⟩
  · obtain ⟨i, rfl⟩ : ∃ i : Nat, p = i := ⟨p.toNat, by omega⟩
    have hi : i < D.parts.length := by omega
    have hb : decide (0 ≤ (i : Int) ∧ (i : Int) < (D.parts.length : Int)) = true := by simp; omega
    rw [hb] at HHAS
    obtain ⟨s0, s1, s2⟩ := HPT.out i hi
    obtain ⟨gb, rfl, cb⟩ := HCQ.out i hi
    have HT : Hid (stateF D S i = (S.sts i, 0)) := by
      show _ = _
      unfold stateF
      rw [if_neg (by omega), Int.toNat_natCast]
    clear HPT HCQ hb hp
    have hi0 : (0 : Int) ≤ (i : Int) := by omega
    unfold ptrV at *
    go_enter Tryz.func28, Tryz.ntmps28
    go_wp2_with fail
    refine Calls.mono HHAS.out ?_
    rintro e w' ⟨rfl, rfl⟩
    generalize w.alloc (.cells #[.bool false, .int .i64 0, .int .i64 0] 76) = W0 at *
    have n0 : W0.cell? ⟨w.heap.size, 0, none⟩ = some (.bool false) := by rw [cell_of_blk HN.out]; rfl
    have n1 : W0.cell? ⟨w.heap.size, 1, none⟩ = some (.int .i64 0) := by rw [cell_of_blk HN.out]; rfl
    have n2 : W0.cell? ⟨w.heap.size, 2, none⟩ = some (.int .i64 0) := by rw [cell_of_blk HN.out]; rfl
    have g0 : W0.frozen? ⟨w.heap.size, 0, none⟩ = false := frozen_of_blk HN.out
    have g1 : W0.frozen? ⟨w.heap.size, 1, none⟩ = false := frozen_of_blk HN.out
    have g2 : W0.frozen? ⟨w.heap.size, 2, none⟩ = false := frozen_of_blk HN.out
    go_wp2_with fail
    have hn3 : (((W0.setCell ⟨w.heap.size, 0, none⟩ (.bool (S.sts i).stopped)).setCell ⟨w.heap.size, 1, none⟩ (.int .i64 (S.sts i).faults)).setCell ⟨w.heap.size, 2, none⟩ (.int .i64 (S.sts i).restarts)).heap[w.heap.size]? = some (.cells #[.bool (S.sts i).stopped, .int .i64 (S.sts i).faults, .int .i64 (S.sts i).restarts] 76 (0, 0)) := blk_set 2 _ (blk_set 1 _ (blk_set 0 _ HN.out))
    have hb3 : Below w.heap.size w (((W0.setCell ⟨w.heap.size, 0, none⟩ (.bool (S.sts i).stopped)).setCell ⟨w.heap.size, 1, none⟩ (.int .i64 (S.sts i).faults)).setCell ⟨w.heap.size, 2, none⟩ (.int .i64 (S.sts i).restarts)) := ((HB0.out.setCell (p := ⟨w.heap.size, 0, none⟩) (Nat.le_refl _) _).setCell (p := ⟨w.heap.size, 1, none⟩) (Nat.le_refl _) _).setCell (p := ⟨w.heap.size, 2, none⟩) (Nat.le_refl _) _
    clear n0 n1 n2 g0 g1 g2
    generalize (((W0.setCell ⟨w.heap.size, 0, none⟩ (.bool (S.sts i).stopped)).setCell ⟨w.heap.size, 1, none⟩ (.int .i64 (S.sts i).faults)).setCell ⟨w.heap.size, 2, none⟩ (.int .i64 (S.sts i).restarts)) = W3 at *
    have n0 : W3.cell? ⟨w.heap.size, 0, none⟩ = some (.bool (S.sts i).stopped) := by rw [cell_of_blk hn3]; rfl
    have n1 : W3.cell? ⟨w.heap.size, 1, none⟩ = some (.int .i64 (S.sts i).faults) := by rw [cell_of_blk hn3]; rfl
    have n2 : W3.cell? ⟨w.heap.size, 2, none⟩ = some (.int .i64 (S.sts i).restarts) := by rw [cell_of_blk hn3]; rfl
    refine bodyPost_ret (v := .tuple #[.agg #[.bool (S.sts i).stopped, .int .i64 (S.sts i).faults, .int .i64 (S.sts i).restarts], .int .i64 0]) (by simp [results, Tryz.results28, go_sem, n0, n1, n2]) rfl ⟨by rw [HT.out]; rfl, hb3⟩
set_option maxRecDepth 100000 in
set_option maxHeartbeats 2000000 in
theorem kraise_any (hz : checkF D = 0) (h : KVi w L (planF D) D.parts D.chans S) (hs : SmallK bigK S) (p : Int) (hp : inR p) :
    Calls Tryz.prog 33 #[ptrV L.kb, .int .i64 p] w fun e w' => e = .returned (.int .i64 (raiseF D S p).1) ∧ KVi w' L (planF D) D.parts D.chans (raiseF D S p).2 ∧ Fx L w w' := by
  have HACT : Hid _ := acting_any hz h p hp
  have HH : Hid (KVi w L (planF D) D.parts D.chans S) := h
  have HFL : Hid (∀ w1, Below w.heap.size w w1 → ∀ i, i < D.parts.length → Calls Tryz.prog 69 #[ptrV (L.pb i)] w1 fun e w' => e = .returned (.tuple #[]) ∧ KVi w' L (planF D) D.parts D.chans (failF D S i) ∧ Fx L w1 w') :=
    fun w1 hb i hi => fail_any hz (h.keep fun b hb' => hb.block b (h.s.low b hb')) hs hi
  clear h hs hp
  unfold ptrV at HACT ⊢
  go_enter Tryz.func33, Tryz.ntmps33
  go_wp2_with fail
  refine Calls.mono HACT.out ?_
  rintro e w1 ⟨hact, hb1⟩
  have HB1 : Hid (Below w.heap.size w w1) := hb1
  rcases hact with ⟨ht, rfl⟩ | ⟨ht, i, rfl, hi, rfl⟩
  · have HR : Hid (raiseF D S p = (turnF D S p, S)) := by show _ = _; unfold raiseF; rw [if_pos ht]
    generalize turnF D S p = tn at *
    go_wp2_with fail
    go_ret
    rw [HR.out]
    exact ⟨rfl, HH.out.keep fun b hb' => HB1.out.block b (HH.out.s.low b hb'), Fx.all HB1.out⟩
  · have HR : Hid (raiseF D S i = (0, failF D S i)) := by show _ = _; unfold raiseF; rw [if_neg (by simp [ht]), Int.toNat_natCast]
    unfold ptrV at HFL ⊢
    go_wp2_with fail
    refine Calls.mono (HFL.out w1 HB1.out i hi) ?_
    rintro e w2 ⟨rfl, hk2, hf2⟩
    go_wp2_with fail
    go_ret
    rw [HR.out]
    exact ⟨rfl, hk2, (Fx.all HB1.out).trans hf2⟩
end
end Go.Proofs.YteioennfpkoagaaGreatDoor.C
namespace Go.Proofs.YteioennfpkoagaaGreatDoor.C
open Go.RowKit K
attribute [local go_sem ↓] Go.wp_at_zero Go.wp_at_succ

theorem infoRegI : (Tryz.prog.info? 90).map (fun i => (i.zero, i.size, i.bytes)) = some (some (.agg #[.int .i64 0, .int .i64 0, .int .i64 0]), 3, 24) := by kernel_rfl
/- an element in the making, beside the list and the reader -/
structure RSt (w W : World) (rb : Nat) (s : ByteArray) (l : List UInt8) (b : Nat) (cs : Array Value) (t : TypeId) (e sz : Nat) (v : Value) (n : Nat) (xs : List Value) : Prop where
  rd : RD W rb s l
  frm : Frm (isB rb) w W
  blk : W.heap[b]? = some (.cells cs t (0, 0))
  own : W.ownsRow w.heap.size e sz v n xs
  far : v.ownBlock ≠ some b
  lo : w.heap.size ≤ b
  old : rb < w.heap.size
section
variable {w W W2 : World} {rb : Nat} {s : ByteArray} {l l2 : List UInt8} {b : Nat} {cs : Array Value} {t : TypeId} {e sz : Nat} {v : Value} {n : Nat} {xs : List Value}
theorem RSt.start (hr : RD W rb s l) (hf : Frm (isB rb) w W) (ho : W.ownsRow w.heap.size e sz v n xs) (hlt : rb < w.heap.size) (cs : Array Value) (t : TypeId) : RSt w (W.alloc (.cells cs t)) rb s l W.heap.size cs t e sz v n xs :=
  ⟨hr.below (newB W _), hf.alloc _, heap_new W _, ho.alloc _, fun h => by have := (ho.lt _ h).2; omega, hf.size, hlt⟩
theorem RSt.num (h : RSt w W rb s l b cs t e sz v n xs) (hr : RD W2 rb s l2) (hf : Frm (isB rb) W W2) : RSt w W2 rb s l2 b cs t e sz v n xs :=
  ⟨hr, h.frm.trans hf (newO.refl _ _), (hf.block b (lt_of_blk h.blk) (fun e => by unfold isB at e; have := h.lo; have := h.old; omega)).trans h.blk, own_far h.own h.old hf, h.far, h.lo, h.old⟩
theorem RSt.set (h : RSt w W rb s l b cs t e sz v n xs) (i : Nat) (u : Value) : RSt w (W.setCell ⟨b, i, none⟩ u) rb s l b (cs.setIfInBounds i u) t e sz v n xs :=
  ⟨h.rd.keep (blk_far i u (by have := h.lo; have := h.old; omega)), h.frm.set (.inr h.lo) i u, blk_set i u h.blk, owns_keep h.own fun k hk => blk_far i u (fun e => h.far (e ▸ hk)), h.far, h.lo, h.old⟩
theorem RSt.cell (h : RSt w W rb s l b cs t e sz v n xs) (i : Nat) : W.cell? ⟨b, i, none⟩ = cs[i]? := cell_of_blk h.blk
theorem RSt.free (h : RSt w W rb s l b cs t e sz v n xs) (i : Nat) : W.frozen? ⟨b, i, none⟩ = false := frozen_of_blk h.blk
theorem RSt.grow (h : RSt w W rb s l b cs t e sz v n xs) (o : Obj) (hg : (W.alloc o).grownBy W2 v.ownBlock) : RD W2 rb s l ∧ Frm (isB rb) w W2 :=
  ⟨(h.rd.below (newB W o)).grow h.old (h.own.alloc _) hg, (h.frm.alloc o).grow (Nat.le_refl _) (h.own.alloc _) hg⟩
end
set_option maxRecDepth 100000 in
set_option maxHeartbeats 4000000 in
theorem iregs_any (w : World) (rb : Nat) (s : ByteArray) (l : List UInt8) (hs : s.size ≤ 9223372036854775807) (h : RD w rb s l) :
    Calls Tryz.prog 226 #[.pointer (some ⟨rb, 0, none⟩)] w fun e w' => ∃ v, e = .returned v ∧ w'.ownsRow w.heap.size 90 3 v (regsI l).1.length (rC (regsI l).1) ∧ RD w' rb s (regsI l).2 ∧ Frm (isB rb) w w' := by
  obtain ⟨i0, hi0, hz0, hz1, hz2⟩ := parts_of infoRegI
  have hrb := h.lt
  go_enter Tryz.func226, Tryz.ntmps226
  go_wp2_with fail
  refine Calls.mono (number_any w rb s l hs h) ?_
  rintro e w1 ⟨rfl, hr1, hf1⟩
  have hn := num_lt l
  have HR1 : Hid (RD w1 rb s (numI l).2) := hr1
  have HF1 : Hid (Frm (isB rb) w w1) := hf1
  obtain ⟨n, hne⟩ : ∃ n, (numI l).1 = n := ⟨_, rfl⟩
  have HL : Hid (regsI l = readN regI n (numI l).2) := by
    show _ = _
    rw [← hne]; rfl
  rw [hne] at hn ⊢
  clear h hr1 hf1 hne
  generalize (numI l).2 = l0 at *
  go_wp2_with fail
  go_loopw [3, 7] (fun v i wr => ∃ (k : Nat) (va : Option Addr) (c : Nat) (X : List RegD) (l' : List UInt8), i = .int .i64 k ∧ v = .slice va k c ∧ Hid (LR regI n l0 k X l') ∧ Hid (wr.ownsRow w.heap.size 90 3 (.slice va k c) k (rC X)) ∧ Hid (RD wr rb s l') ∧ Hid (Frm (isB rb) w wr)) (fun _ i _ => n - (intOf i).toNat)
  case atStart => exact ⟨0, none, 0, [], l0, rfl, rfl, LR.start _ _ _, World.ownsRow_nil _ _ _ _, HR1, HF1⟩
  case round =>
    obtain ⟨k, va, c, X, l', rfl, rfl, HLR, HOW, HRD, HFR⟩ := hrel
    clear HR1 HF1
    by_cases hlt : k < n
    · have hlt' : (k : Int) < (n : Int) := by omega
      have HS0 : Hid (RSt w (wr.alloc (.cells #[.int .i64 0, .int .i64 0, .int .i64 0] 90)) rb s l' wr.heap.size #[.int .i64 0, .int .i64 0, .int .i64 0] 90 90 3 (.slice va k c) k (rC X)) := RSt.start HRD.out HFR.out HOW.out hrb _ _
      have HL2 : Hid (LR regI n l0 (k + 1) (X ++ [(regI l').1]) (regI l').2) := HLR.out.step hlt
      go_wp2_with fail
      generalize wr.alloc (.cells #[.int .i64 0, .int .i64 0, .int .i64 0] 90) = W1 at *
      generalize wr.heap.size = b at *
      refine Calls.mono (number_any W1 rb s l' hs HS0.out.rd) ?_
      rintro e w2 ⟨rfl, hr2, hf2⟩
      have HS1 : Hid _ := HS0.out.num hr2 hf2
      have c0 : w2.cell? ⟨b, 0, none⟩ = some (.int .i64 0) := HS1.out.cell 0
      have f0 : w2.frozen? ⟨b, 0, none⟩ = false := HS1.out.free 0
      clear hr2 hf2 HLR HOW HRD HFR
      obtain ⟨x1, hx1⟩ : ∃ x, (numI l').1 = x := ⟨_, rfl⟩
      rw [hx1]
      go_wp2_with fail
      have HS2 : Hid _ := HS1.out.set 0 (.int .i64 x1)
      clear c0 f0
      generalize w2.setCell ⟨b, 0, none⟩ (.int .i64 x1) = W2 at *
      refine Calls.mono (number_any W2 rb s _ hs HS2.out.rd) ?_
      rintro e w3 ⟨rfl, hr3, hf3⟩
      have HS3 : Hid _ := HS2.out.num hr3 hf3
      have c0 : w3.cell? ⟨b, 1, none⟩ = some (.int .i64 0) := HS3.out.cell 1
      have f0 : w3.frozen? ⟨b, 1, none⟩ = false := HS3.out.free 1
      clear hr3 hf3
      obtain ⟨x2, hx2⟩ : ∃ x, (numI (numI l').2).1 = x := ⟨_, rfl⟩
      rw [hx2]
      go_wp2_with fail
      have HS4 : Hid _ := HS3.out.set 1 (.int .i64 x2)
      clear c0 f0
      generalize w3.setCell ⟨b, 1, none⟩ (.int .i64 x2) = W3 at *
      refine Calls.mono (number_any W3 rb s _ hs HS4.out.rd) ?_
      rintro e w4 ⟨rfl, hr4, hf4⟩
      have HS5 : Hid _ := HS4.out.num hr4 hf4
      have c0 : w4.cell? ⟨b, 2, none⟩ = some (.int .i64 0) := HS5.out.cell 2
      have f0 : w4.frozen? ⟨b, 2, none⟩ = false := HS5.out.free 2
      clear hr4 hf4
      obtain ⟨x3, hx3⟩ : ∃ x, (numI (numI (numI l').2).2).1 = x := ⟨_, rfl⟩
      rw [hx3]
      have HX : Hid ((regI l').1 = ⟨x1, x2, x3⟩) := by
        show (⟨_, _, _⟩ : RegD) = _
        rw [hx1, hx2, hx3]
      have HS6 : Hid (RSt w (w4.setCell ⟨b, 2, none⟩ (.int .i64 x3)) rb s (regI l').2 b #[.int .i64 x1, .int .i64 x2, .int .i64 x3] 90 90 3 (.slice va k c) k (rC X)) := HS5.out.set 2 (.int .i64 x3)
      have d0 : (w4.setCell ⟨b, 2, none⟩ (.int .i64 x3)).cell? ⟨b, 0, none⟩ = some (.int .i64 x1) := HS6.out.cell 0
      have d1 : (w4.setCell ⟨b, 2, none⟩ (.int .i64 x3)).cell? ⟨b, 1, none⟩ = some (.int .i64 x2) := HS6.out.cell 1
      have d2 : (w4.setCell ⟨b, 2, none⟩ (.int .i64 x3)).cell? ⟨b, 2, none⟩ = some (.int .i64 x3) := HS6.out.cell 2
      clear HS0 HS1 HS2 HS3 HS4 HS5 hx1 hx2 hx3
      go_upto_region 8 with fail
      generalize w4.setCell ⟨b, 2, none⟩ (.int .i64 x3) = W4 at *
      have hsz := HS6.out.frm.size
      go_wp2_with (first
        | (at_builtin; refine wpList_append_lies _ rfl _ _ _ rfl w.heap.size 90 i0 _ 3 24 Tryz.underlying40 hi0 hz0 hz1 hz2 rfl (by omega) (.slice va k c) k (rC X) rfl (HS6.out.own.alloc _) ⟨W4.heap.size, 0, none⟩ 1 1 [.int .i64 x1, .int .i64 x2, .int .i64 x3] rfl rfl (World.news_of_block (cs := #[.int .i64 x1, .int .i64 x2, .int .i64 x3]) (t := 90) (fr := (0, 0)) (heap_new W4 _)) (by simp [Value.oneCell']) (by omega) (by unfold maxLen; omega) (by omega) (by simp; omega) (W4.heap.size + 1) (by simp) ?_; intro g9 c9 V9 hown9 hgrow9 hat9 hlt9)
        | fail)
      obtain ⟨hr9, hf9⟩ := HS6.out.grow _ hgrow9
      refine ⟨⟨k + 1, _, c9, _, _, by go_num, rfl, HL2, ?_, hr9, hf9⟩, by simp [intOf]; omega⟩
      have e : rC (X ++ [(regI l').1]) = rC X ++ [.int .i64 x1, .int .i64 x2, .int .i64 x3] := by rw [HX.out]; simp [rC, rC1]
      rw [e]; exact hown9
    · have hlt' : ¬ (k : Int) < (n : Int) := by omega
      go_wp2_with fail
      go_ret
      have hfin := HLR.out.fin hlt
      have hl := HLR.out.len
      rw [HL.out, hfin]
      exact ⟨_, rfl, by rw [hl]; exact HOW.out, HRD.out, HFR.out⟩
end Go.Proofs.YteioennfpkoagaaGreatDoor.C
