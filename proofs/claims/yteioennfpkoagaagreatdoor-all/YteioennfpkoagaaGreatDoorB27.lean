import Derived.Test.YteioennfpkoagaaGreatDoorB26
import Derived.Deep.RegionLaw
import Derived.Shelf.RegionOpenPlain
import Derived.Test.YteioennfpkoagaaGreatDoorB19
namespace Go.Proofs.YteioennfpkoagaaGreatDoor.C
open Go.RowKit K
attribute [local go_sem ↓] Go.wp_at_zero Go.wp_at_succ

theorem infoBytes : (Tryz.prog.info? 63).map (fun i => (i.zero, i.size, i.bytes)) = some (some (.slice none 0 0), 1, 24) := by kernel_rfl
set_option maxRecDepth 100000 in
set_option maxHeartbeats 4000000 in
theorem sdel_any (w : World) (g n cap : Nat) (vs : List Value) (hn : 1 ≤ n) (hn2 : n ≤ 255) (ho : w.ownsRow 0 63 1 (.slice (some ⟨g, 0, none⟩) n cap) n vs) (hone : ∀ v ∈ vs, v.oneCell' = true) :
    Calls Tryz.prog 127 #[.slice (some ⟨g, 0, none⟩) n cap, .int .i64 0, .int .i64 1] w fun e w' => e = .returned (.slice (some ⟨g, 0, none⟩) (n - 1) cap) ∧ w'.ownsRow 0 63 1 (.slice (some ⟨g, 0, none⟩) (n - 1) cap) (n - 1) (vs.drop 1) ∧ Frm (isB g) w w' := by
  obtain ⟨i0, hi0, hz0, hz1, hz2⟩ := parts_of infoBytes
  have hcm : n ≤ cap ∧ cap ≤ maxLen := by
    rcases ho.2 with ⟨h, _⟩ | ⟨g', cap', cur, h, _, _, h5, h6, _⟩
    · cases h
    · cases h; exact ⟨h5, h6⟩
  obtain ⟨hcap, hmax⟩ := hcm
  unfold maxLen at hmax
  obtain ⟨cur, hg, hcs, htake⟩ : ∃ cur, w.heap[g]? = some (.cells cur 63 (0, 0)) ∧ cur.size = cap ∧ cur.toList.take n = vs := by
    rcases ho.2 with ⟨h, _⟩ | ⟨g', cap', cur, h, _, h4, h5, h6, h7, h8⟩
    · cases h
    · cases h; exact ⟨cur, h4, by omega, by rw [Nat.mul_one] at h8; exact h8⟩
  have hvl : vs.length = n := by rw [← htake, List.length_take]; simp; omega
  have hvs : ∀ t, t < n → w.cell? ⟨g, t, none⟩ = vs[t]? := fun t ht => by
    rw [cell_of_blk hg, ← htake, List.getElem?_take_of_lt ht]
    simp
  obtain ⟨news, hnews⟩ : ∃ news, news = vs.drop 1 := ⟨_, rfl⟩
  have hlen : news.length = n - 1 := by rw [hnews, List.length_drop, hvl]
  obtain ⟨A, hA, hsrc⟩ : ∃ A : Addr, (if cap = 1 then some (⟨g, 0, none⟩ : Addr) else some ⟨g, 0 + 1, none⟩) = some A ∧ Hid (∀ t u, news[t]? = some u → w.drew.cell? (A.add t) = some u) := by
    by_cases h : cap = 1
    · refine ⟨⟨g, 0, none⟩, by simp [h], fun t u hu => ?_⟩
      have h0 : news.length = 0 := by rw [hlen]; omega
      rw [List.length_eq_zero_iff.1 h0] at hu
      simp at hu
    · refine ⟨⟨g, 0 + 1, none⟩, by simp [h], fun t u hu => ?_⟩
      have ht : t < n - 1 := by
        have := (List.getElem?_eq_some_iff.1 hu).1
        rwa [hlen] at this
      rw [hnews, List.getElem?_drop] at hu
      rw [Addr.add_lit, show 0 + 1 + t = 1 + t by omega]
      exact (hvs (1 + t) (by omega)).trans hu
  have s1 : Hid (news.length = (n - 1) * 1) := by rw [Nat.mul_one]; exact hlen
  have s2 : Hid (∀ u ∈ news, u.oneCell' = true) := fun u hu => hone u (List.mem_of_mem_drop (by rw [← hnews]; exact hu))
  have s3 : Hid (∀ t, t < news.length → (w.drew.cell? ⟨g, 0 + 0 * 1 + t, none⟩).isSome = true ∧ w.drew.frozen? ⟨g, 0 + 0 * 1 + t, none⟩ = false) := fun t ht => by
    rw [hlen] at ht
    rw [show 0 + 0 * 1 + t = t by omega]
    refine ⟨?_, frozen_of_blk (w := w.drew) hg⟩
    show (w.cell? _).isSome = true
    rw [hvs t (by omega), List.getElem?_eq_getElem (by omega)]; rfl
  obtain ⟨W1, hW1⟩ : ∃ W1, W1 = w.drew.setCells g (0 + 0 * 1) news := ⟨_, rfl⟩
  obtain ⟨cur1, hg1, hcs1⟩ := blk_many g news (0 + 0 * 1) w.drew cur 63 (0, 0) hg
  rw [← hW1] at hg1
  have hcl : ∀ ty, (Builtin.clear_ #[151] ty #[.slice (some ⟨g, n - 1, none⟩) (n - (n - 1)) (cap - (n - 1))]).run Tryz.prog W1 = .ok (.tuple #[]) (W1.setCells g (n - 1) (List.replicate (n - (n - 1)) (.slice none 0 0))) :=
    fun ty => Lib.run_clear_slice W1 151 63 ty (.slice none 0 0) Tryz.underlying151 (fun w => Tryz.zeroValue63 w) rfl rfl g (n - 1) _ _ (by omega) (fun t ht => by rw [cell_of_blk hg1, Array.getElem?_eq_getElem (by omega)]; rfl) (fun t ht => frozen_of_blk hg1)
  have hW : Hid (W1 = w.drew.setCells g (0 + 0 * 1) news) := hW1
  have HG : Hid _ := hg
  have HG1 : Hid (W1.heap[g]? = some (.cells cur1 63 (0, 0)) ∧ cur1.size = cap) := ⟨hg1, by omega⟩
  have HVS : Hid _ := hvs
  have HN : Hid (news = vs.drop 1 ∧ news.length = n - 1) := ⟨hnews, hlen⟩
  clear hW1 hg hg1 hcs1 hvs htake ho hone hnews hlen hcs
  go_enter Tryz.func127, Tryz.ntmps127
  go_wp2_with fail
  have h1n : (1 : Int) ≤ (n : Int) := by omega
  go_region_law (refine step_append_room rfl (.tmp 22) (.tmp 25) 151 rfl 63 i0 1 Tryz.underlying151 hi0 hz1 g 0 0 cap (by simp [Act.eval, Act.put]) A (n - 1) (cap - 1) news (by simp [Act.eval, Act.put]) s1.out hsrc.out s2.out (by omega) s3.out ?_; rw [← hW.out])
  go_wp2_with fail
  go_ret
  obtain ⟨arr2, ha1, ha2⟩ := blk_many g (List.replicate (n - (n - 1)) (.slice none 0 0)) (n - 1) W1 cur1 63 (0, 0) HG1.out.1
  have hcell : ∀ t, t < n - 1 → arr2[t]? = (vs.drop 1)[t]? := fun t ht => by
    rw [← cell_of_blk ha1, World.cell?_setCells_out _ _ _ _ _ (fun _ _ => .inl (show t < n - 1 from ht)), hW.out]
    obtain ⟨hq1, hq2⟩ := HN.out
    have hlt9 : t < news.length := by omega
    have hin := World.cell?_setCells_in g news (0 + 0 * 1) w.drew (fun j hj => (s3.out j hj).1) t hlt9
    rw [show 0 + 0 * 1 + t = t by omega] at hin
    rw [hin, ← hq1, List.getElem?_eq_getElem hlt9]
  refine ⟨rfl, ⟨by rw [List.length_drop, hvl]; omega, .inr ⟨g, cap, arr2, rfl, Nat.zero_le _, ha1, by omega, by unfold maxLen; exact hmax, by rw [ha2, HG1.out.2]; omega, ?_⟩⟩, ?_⟩
  · apply List.ext_getElem?
    intro t
    rcases Nat.lt_or_ge t (n - 1) with ht | ht
    · rw [Nat.mul_one, List.getElem?_take_of_lt ht, ← hcell t ht]
      simp
    · rw [List.getElem?_eq_none (by rw [List.length_take]; omega), List.getElem?_eq_none (by rw [List.length_drop, hvl]; omega)]
  · have h1 : Frm (isB g) w W1 := by
      rw [hW.out]
      exact Frm.many (o := isB g) (Frm.refl _ _).drew (.inl (rfl : isB g g)) _ _
    exact h1.many (.inl (rfl : isB g g)) _ _
end Go.Proofs.YteioennfpkoagaaGreatDoor.C
namespace Go.Proofs.YteioennfpkoagaaGreatDoor.C
open Go.RowKit K
attribute [local go_sem ↓] Go.wp_at_zero Go.wp_at_succ

/- what lies in a channel's block -/
structure ChB (w : World) (b : Nat) (y : ChanD) (mv : Value) (age : Int) (n : Nat) (vs : List Value) : Prop where
  blk : w.heap[b]? = some (.cells (chanB y mv age) 153)
  own : w.ownsRow 0 63 1 mv n vs
  far : mv.ownBlock ≠ some b
/- what a message put into a channel leaves -/
structure PutR (w : World) (b : Nat) (y : ChanD) (mv : Value) (age' : Int) (n : Nat) (vs : List Value) (t : ByteArray) (w' : World) (mv' m' : Value) : Prop where
  blk : w'.heap[b]? = some (.cells (chanB y mv' age') 153)
  own : w'.ownsRow 0 63 1 mv' (n + 1) (vs ++ [m'])
  msg : MsgV w' (fun k => w.heap.size ≤ k) m' t
  frm : Frm (fun k => k = b ∨ mv.ownBlock = some k) w w'
  new : ∀ k, mv'.ownBlock = some k → mv.ownBlock = some k ∨ w.heap.size ≤ k
theorem below2 (w : World) (o1 o2 : Obj) : Below w.heap.size w ((w.alloc o1).alloc o2).drew := below_drewN ((newB w o1).trans ((newB (w.alloc o1) o2).mono (newB w o1).size)) 1
theorem heap21 (w : World) (o1 o2 : Obj) : ((w.alloc o1).alloc o2).drew.heap[w.heap.size + 1]? = some o2 := by
  have h := heap_new (w.alloc o1) o2
  have e : (w.alloc o1).heap.size = w.heap.size + 1 := by simp
  rw [e] at h
  exact h
theorem heap20 (w : World) (o1 o2 : Obj) : ((w.alloc o1).alloc o2).drew.heap[w.heap.size]? = some o1 := heap_old (w.alloc o1) o2 (heap_new w o1)
theorem bytesRow_at (t : ByteArray) (gc k : Nat) (h : k < t.size) : (bytesRow t gc)[k]? = some (.int .u8 t[k].toNat) := by
  unfold bytesRow
  have hi' : k < t.data.size := h
  rw [Array.getElem?_append_left (by simpa using hi'), Array.getElem?_map, Array.getElem?_eq_getElem hi']
  rfl
theorem PutR.of {w V9 : World} {b : Nat} {y : ChanD} {mv : Value} {age' : Int} {n : Nat} {vs : List Value} {t : ByteArray} {gc g9 c9 : Nat} {o1 o2 : Obj} (h1 : o1 = .cells (bytesRow t gc) 5 ((bytesRow t gc).size, (bytesRow t gc).size + 1)) (hlo : ∀ k, mv.ownBlock = some k → k < w.heap.size) (hblt : b < w.heap.size) (hfar : mv.ownBlock ≠ some b)
    (hb9 : V9.heap[b]? = some (.cells (chanB y mv age') 153))
    (hown9 : V9.ownsRow 0 63 1 (.slice (some ⟨g9, 0, none⟩) (n + 1) c9) (n + 1) (vs ++ [.slice (some ⟨w.heap.size, 0, none⟩) t.size gc])) (hgrow9 : ((w.alloc o1).alloc o2).drew.grownBy V9 mv.ownBlock) (hat9 : mv.ownBlock = some g9 ∨ g9 = w.heap.size + 2) :
    PutR w b y mv age' n vs t (V9.setCell ⟨b, 5, none⟩ (.slice (some ⟨g9, 0, none⟩) (n + 1) c9)) (.slice (some ⟨g9, 0, none⟩) (n + 1) c9) (.slice (some ⟨w.heap.size, 0, none⟩) t.size gc) := by
  have hF := Frm.grown hgrow9
  have hgb : g9 ≠ b := by
    rcases hat9 with h | h
    · exact fun e => hfar (e ▸ h)
    · omega
  have hsz : ((w.alloc o1).alloc o2).drew.heap.size = w.heap.size + 2 := by simp
  refine ⟨by rw [blk_set 5 _ hb9]; rfl, owns_keep hown9 fun k hk => blk_far 5 _ (fun e => ?_), ⟨w.heap.size, gc, bytesRow t gc, ((bytesRow t gc).size, (bytesRow t gc).size + 1), rfl, Nat.le_refl _, ?_, fun k hk => bytesRow_at t gc k hk⟩, ?_, fun k hk => ?_⟩
  · have : some g9 = some k := hk
    cases this
    exact hgb e
  · rw [blk_far 5 _ (by omega), hF.block w.heap.size (by omega) (fun e => by have := hlo _ e; omega), heap20 w o1 o2, h1]
  · refine Frm.set ?_ (.inl (.inl rfl)) _ _
    exact ((Frm.all _ (below2 w o1 o2)).trans (hF.mono fun k hk => (.inr hk : k = b ∨ mv.ownBlock = some k)) (newO.refl _ _))
  · have : some g9 = some k := hk
    cases this
    rcases hat9 with h | h
    · exact .inl h
    · exact .inr (by omega)
set_option maxRecDepth 100000 in
set_option maxHeartbeats 4000000 in
theorem put_queue (w : World) (b : Nat) (y : ChanD) (mv : Value) (age : Int) (n : Nat) (vs : List Value) (t : ByteArray) (hk : y.kind = 1) (h : ChB w b y mv age n vs) (hn : n ≤ 255) :
    Calls Tryz.prog 74 #[ptrV b, .string t] w fun e w' => e = .returned (.tuple #[]) ∧ ∃ mv' m', PutR w b y mv age n vs t w' mv' m' := by
  obtain ⟨i0, hi0, hz0, hz1, hz2⟩ := parts_of infoBytes
  have HB : Hid (w.heap[b]? = some (.cells (chanB y mv age) 153)) := h.blk
  have HO : Hid (w.ownsRow 0 63 1 mv n vs) := h.own
  have HF : Hid (mv.ownBlock ≠ some b) := h.far
  obtain ⟨va, cp, rfl⟩ := own_slice h.own
  have c2 : w.cell? ⟨b, 2, none⟩ = some (.bool true) := by
    rw [cell_of_blk h.blk]
    show some (Value.bool (decide (y.kind = 1))) = _
    rw [decide_eq_true hk]
  have c5 : w.cell? ⟨b, 5, none⟩ = some (.slice va n cp) := by rw [cell_of_blk h.blk]; rfl
  have f5 : w.frozen? ⟨b, 5, none⟩ = false := frozen_of_blk h.blk
  clear h
  have hcv := run_bytes_of_string (P := Tryz.prog) w 9 63 5 t Tryz.underlying9 Tryz.underlying63 Tryz.underlying5
  unfold ptrV
  go_enter Tryz.func74, Tryz.ntmps74
  have HCP : Hid (∀ s : ByteArray, s.size ≤ grownCap w s.size 0 5) := fun s => grownCap_ge w s.size 0 5
  obtain ⟨gc, hgc⟩ : ∃ gc, grownCap w t.size 0 5 = gc := ⟨_, rfl⟩
  rw [hgc] at hcv
  have hblt : b < w.heap.size := lt_of_blk HB.out
  have HOX : Hid (∀ V, Below w.heap.size w V → V.ownsRow 0 63 1 (.slice va n cp) n vs) := fun V hV => own_stays HO.out hV
  go_wp2_with (first
    | (at_builtin; refine wpList_append_lies _ rfl _ _ _ rfl 0 63 i0 _ 1 24 Tryz.underlying151 hi0 hz0 hz1 hz2 rfl (by omega) (.slice va n cp) n vs rfl (HOX.out _ (below2 w _ _)) ⟨w.heap.size + 1, 0, none⟩ 1 1 [.slice (some ⟨w.heap.size, 0, none⟩) t.size gc] rfl rfl (World.news_of_block (cs := #[.slice (some ⟨w.heap.size, 0, none⟩) t.size gc]) (t := 63) (fr := (0, 0)) (heap21 w _ _)) (by simp [Value.oneCell']) (by omega) (by unfold maxLen; omega) (by omega) (Nat.zero_le _) (w.heap.size + 2) (by simp) ?_; intro g9 c9 V9 hown9 hgrow9 hat9 hlt9
       have hb9 := ((Frm.grown hgrow9).block b (by simp; omega) HF.out).trans (((below2 w _ _).block b hblt).trans HB.out)
       have c59 : V9.cell? ⟨b, 5, none⟩ = some (.slice va n cp) := by rw [cell_of_blk hb9]; rfl
       have f59 : V9.frozen? ⟨b, 5, none⟩ = false := frozen_of_blk hb9
       have HB9 : Hid _ := hb9
       clear hb9)
    | fail)
  go_end0
  exact ⟨rfl, _, _, PutR.of rfl (fun k hk => (HO.out.lt k hk).2) hblt HF.out HB9.out hown9 hgrow9 hat9⟩
set_option maxRecDepth 100000 in
set_option maxHeartbeats 1000000 in
theorem emptyB_any (w : World) (b : Nat) (v : Value) (c5 : w.cell? ⟨b, 5, none⟩ = some v) (f5 : w.frozen? ⟨b, 5, none⟩ = false) :
    Calls Tryz.prog 126 #[ptrV b] w fun e w' => e = .returned (.tuple #[]) ∧ w' = w.setCell ⟨b, 5, none⟩ (.slice none 0 0) := by
  unfold ptrV
  go_enter Tryz.func126, Tryz.ntmps126
  go_wp2_with fail
  go_end0
  exact ⟨rfl, rfl⟩
set_option maxRecDepth 100000 in
set_option maxHeartbeats 4000000 in
theorem put_sample (w : World) (b : Nat) (y : ChanD) (mv : Value) (age : Int) (t : ByteArray) (hk : ¬ y.kind = 1) (h : w.heap[b]? = some (.cells (chanB y mv age) 153)) :
    Calls Tryz.prog 74 #[ptrV b, .string t] w fun e w' => e = .returned (.tuple #[]) ∧ ∃ W2 mv' m', PutR W2 b y (.slice none 0 0) 0 0 [] t w' mv' m' ∧ Frm (isB b) w W2 ∧ W2.heap.size = w.heap.size := by
  obtain ⟨i0, hi0, hz0, hz1, hz2⟩ := parts_of infoBytes
  have c2 : w.cell? ⟨b, 2, none⟩ = some (.bool false) := by
    rw [cell_of_blk h]
    show some (Value.bool (decide (y.kind = 1))) = _
    rw [decide_eq_false hk]
  have c5 : w.cell? ⟨b, 5, none⟩ = some mv := by rw [cell_of_blk h]; rfl
  have f5 : w.frozen? ⟨b, 5, none⟩ = false := frozen_of_blk h
  have HEM : Hid _ := emptyB_any w b mv c5 f5
  have h1 : (w.setCell ⟨b, 5, none⟩ (.slice none 0 0)).heap[b]? = some (.cells (chanB y (.slice none 0 0) age) 153) := by rw [blk_set 5 _ h]; rfl
  have hf1 : Frm (isB b) w ((w.setCell ⟨b, 5, none⟩ (.slice none 0 0)).setCell ⟨b, 6, none⟩ (.int .i64 0)) := Frm.set (o := isB b) (Frm.set (o := isB b) (Frm.refl _ _) (.inl (rfl : isB b b)) _ _) (.inl (rfl : isB b b)) _ _
  have hsz1 : ((w.setCell ⟨b, 5, none⟩ (.slice none 0 0)).setCell ⟨b, 6, none⟩ (.int .i64 0)).heap.size = w.heap.size := by simp
  have h2 : ((w.setCell ⟨b, 5, none⟩ (.slice none 0 0)).setCell ⟨b, 6, none⟩ (.int .i64 0)).heap[b]? = some (.cells (chanB y (.slice none 0 0) 0) 153) := by rw [blk_set 6 _ h1]; rfl
  have HF1 : Hid _ := hf1
  have HS1 : Hid _ := hsz1
  have HB : Hid _ := h2
  have c6 : (w.setCell ⟨b, 5, none⟩ (.slice none 0 0)).cell? ⟨b, 6, none⟩ = some (.int .i64 age) := by rw [cell_of_blk h1]; rfl
  have f6 : (w.setCell ⟨b, 5, none⟩ (.slice none 0 0)).frozen? ⟨b, 6, none⟩ = false := frozen_of_blk h1
  have d5 : ((w.setCell ⟨b, 5, none⟩ (.slice none 0 0)).setCell ⟨b, 6, none⟩ (.int .i64 0)).cell? ⟨b, 5, none⟩ = some (.slice none 0 0) := by rw [cell_of_blk h2]; rfl
  have g5 : ((w.setCell ⟨b, 5, none⟩ (.slice none 0 0)).setCell ⟨b, 6, none⟩ (.int .i64 0)).frozen? ⟨b, 5, none⟩ = false := frozen_of_blk h2
  have hcv := run_bytes_of_string (P := Tryz.prog) ((w.setCell ⟨b, 5, none⟩ (.slice none 0 0)).setCell ⟨b, 6, none⟩ (.int .i64 0)) 9 63 5 t Tryz.underlying9 Tryz.underlying63 Tryz.underlying5
  obtain ⟨gc, hgc⟩ : ∃ gc, grownCap ((w.setCell ⟨b, 5, none⟩ (.slice none 0 0)).setCell ⟨b, 6, none⟩ (.int .i64 0)) t.size 0 5 = gc := ⟨_, rfl⟩
  rw [hgc] at hcv
  clear h h1 h2 hf1 hsz1
  unfold ptrV at HEM ⊢
  go_enter Tryz.func74, Tryz.ntmps74
  go_wp2_with fail
  refine Calls.mono HEM.out ?_
  rintro e w1 ⟨rfl, rfl⟩
  clear HEM
  go_upto_region 3 with fail
  generalize (w.setCell ⟨b, 5, none⟩ (.slice none 0 0)).setCell ⟨b, 6, none⟩ (.int .i64 0) = W2 at *
  have HO : Hid (W2.ownsRow 0 63 1 (.slice none 0 0) 0 []) := World.ownsRow_nil _ _ _ _
  have HF : Hid ((Value.slice none 0 0).ownBlock ≠ some b) := fun e => by cases e
  have HCP : Hid (∀ s : ByteArray, s.size ≤ grownCap W2 s.size 0 5) := fun s => grownCap_ge W2 s.size 0 5
  have hblt : b < W2.heap.size := lt_of_blk HB.out
  have HOX : Hid (∀ V, Below W2.heap.size W2 V → V.ownsRow 0 63 1 (.slice none 0 0) 0 []) := fun V hV => own_stays HO.out hV
  go_wp2_with (first
    | (at_builtin; refine wpList_append_lies _ rfl _ _ _ rfl 0 63 i0 _ 1 24 Tryz.underlying151 hi0 hz0 hz1 hz2 rfl (by omega) (.slice none 0 0) 0 [] rfl (HOX.out _ (below2 W2 _ _)) ⟨W2.heap.size + 1, 0, none⟩ 1 1 [.slice (some ⟨W2.heap.size, 0, none⟩) t.size gc] rfl rfl (World.news_of_block (cs := #[.slice (some ⟨W2.heap.size, 0, none⟩) t.size gc]) (t := 63) (fr := (0, 0)) (heap21 W2 _ _)) (by simp [Value.oneCell']) (by omega) (by unfold maxLen; omega) (by omega) (Nat.zero_le _) (W2.heap.size + 2) (by simp) ?_; intro g9 c9 V9 hown9 hgrow9 hat9 hlt9
       have hb9 := ((Frm.grown hgrow9).block b (by simp; omega) HF.out).trans (((below2 W2 _ _).block b hblt).trans HB.out)
       have c59 : V9.cell? ⟨b, 5, none⟩ = some (.slice none 0 0) := by rw [cell_of_blk hb9]; rfl
       have f59 : V9.frozen? ⟨b, 5, none⟩ = false := frozen_of_blk hb9
       have HB9 : Hid _ := hb9
       clear hb9)
    | fail)
  go_end0
  exact ⟨rfl, W2, _, _, PutR.of rfl (fun k hk => (HO.out.lt k hk).2) hblt HF.out HB9.out hown9 hgrow9 hat9, HF1.out, HS1.out⟩
end Go.Proofs.YteioennfpkoagaaGreatDoor.C
namespace Go.Proofs.YteioennfpkoagaaGreatDoor.C
open Go.RowKit K
attribute [local go_sem ↓] Go.wp_at_zero Go.wp_at_succ

theorem conv_msg {w : World} {P : Nat → Prop} {v : Value} {t : ByteArray} (h : MsgV w P v t) : (convert 63 9 v).run Tryz.prog w = .ok (.string t) w := by
  obtain ⟨b, cap, arr, fr, rfl, _, hb, hc⟩ := h
  have hsz : t.data.toList.length = t.size := by simp
  have := run_convert_bytes_arg (P := Tryz.prog) w 63 5 Tryz.underlying63 Tryz.underlying5 b 0 t.size cap (t.data.toList.map fun x => (x.toNat : Int)) (by simp) (fun i hi => by
    rw [Nat.zero_add, cell_of_blk hb, hc i hi]
    have hi2 : i < t.data.toList.length := by omega
    simp [List.getD, List.getElem?_eq_getElem hi2]
    rfl) 9 Tryz.underlying9
  have e : (t.data.toList.map fun x => (x.toNat : Int)).map (fun n => UInt8.ofNat n.toNat) = t.data.toList := by
    rw [List.map_map]
    conv => rhs; rw [← List.map_id t.data.toList]
    apply List.map_congr_left
    intro x _
    simp
  have e2 : strOfNums (t.data.toList.map fun x => (x.toNat : Int)) = t := by
    unfold strOfNums
    rw [e]
  rw [this, e2]
set_option maxRecDepth 100000 in
set_option maxHeartbeats 4000000 in
theorem take_sample (w : World) (b : Nat) (y : ChanD) (age : Int) (g cap : Nat) (v : Value) (P : Nat → Prop) (t : ByteArray) (hk : ¬ y.kind = 1) (h : w.heap[b]? = some (.cells (chanB y (.slice (some ⟨g, 0, none⟩) 1 cap) age) 153)) (hg : w.cell? ⟨g, 0, none⟩ = some v) (hm : MsgV w P v t) :
    Calls Tryz.prog 76 #[ptrV b] w fun e w' => e = .returned (.tuple #[.string t, .bool (decide (age ≤ y.depth))]) ∧ Below w.heap.size w w' := by
  have c2 : w.cell? ⟨b, 2, none⟩ = some (.bool false) := by
    rw [cell_of_blk h]
    show some (Value.bool (decide (y.kind = 1))) = _
    rw [decide_eq_false hk]
  have c4 : w.cell? ⟨b, 4, none⟩ = some (.int .i64 y.depth) := by rw [cell_of_blk h]; rfl
  have c5 : w.cell? ⟨b, 5, none⟩ = some (.slice (some ⟨g, 0, none⟩) 1 cap) := by rw [cell_of_blk h]; rfl
  have c6 : w.cell? ⟨b, 6, none⟩ = some (.int .i64 age) := by rw [cell_of_blk h]; rfl
  have hcv := conv_msg hm
  obtain ⟨mb, mcap, arr, fr, rfl, _, _, _⟩ := hm
  clear h
  unfold ptrV
  go_enter Tryz.func76, Tryz.ntmps76
  go_wp2_with fail
  go_quiet (fail)
  go_wp2_with fail
  go_ret2
  exact ⟨rfl, below_drewN (Below.refl _ _) _⟩
set_option maxRecDepth 100000 in
set_option maxHeartbeats 4000000 in
theorem take_queue (w : World) (b : Nat) (y : ChanD) (age : Int) (g cap n : Nat) (vs : List Value) (v : Value) (P : Nat → Prop) (t : ByteArray) (hk : y.kind = 1) (h : ChB w b y (.slice (some ⟨g, 0, none⟩) n cap) age n vs) (hn : 1 ≤ n) (hn2 : n ≤ 255) (h0 : vs[0]? = some v) (hone : ∀ v ∈ vs, v.oneCell' = true) (hm : MsgV w P v t) :
    Calls Tryz.prog 76 #[ptrV b] w fun e w' => e = .returned (.tuple #[.string t, .bool true]) ∧ ChB w' b y (.slice (some ⟨g, 0, none⟩) (n - 1) cap) age (n - 1) (vs.drop 1) ∧ Frm (fun k => k = b ∨ k = g) w w' := by
  have HB : Hid (w.heap[b]? = some (.cells (chanB y (.slice (some ⟨g, 0, none⟩) n cap) age) 153)) := h.blk
  have HD : Hid _ := sdel_any w g n cap vs hn hn2 h.own hone
  have hgb : g ≠ b := fun e => h.far (by rw [e]; rfl)
  have c2 : w.cell? ⟨b, 2, none⟩ = some (.bool true) := by
    rw [cell_of_blk h.blk]
    show some (Value.bool (decide (y.kind = 1))) = _
    rw [decide_eq_true hk]
  have c5 : w.cell? ⟨b, 5, none⟩ = some (.slice (some ⟨g, 0, none⟩) n cap) := by rw [cell_of_blk h.blk]; rfl
  have hg : w.cell? ⟨g, 0, none⟩ = some v := by
    rw [World.ownsRow.cellAt h.own 0 (by omega)]; exact h0
  have hcv := conv_msg hm
  obtain ⟨mb, mcap, arr, fr, rfl, _, _, _⟩ := hm
  have hblt := lt_of_blk h.blk
  clear h
  have h1n : (0 : Int) < (n : Int) := by omega
  unfold ptrV
  go_enter Tryz.func76, Tryz.ntmps76
  go_wp2_with fail
  refine Calls.mono HD.out ?_
  rintro e w2 ⟨rfl, hown2, hf2⟩
  have hb2 : w2.heap[b]? = some (.cells (chanB y (.slice (some ⟨g, 0, none⟩) n cap) age) 153) := (hf2.block b hblt (fun e => hgb e.symm)).trans HB.out
  have d5 : w2.cell? ⟨b, 5, none⟩ = some (.slice (some ⟨g, 0, none⟩) n cap) := by rw [cell_of_blk hb2]; rfl
  have g5 : w2.frozen? ⟨b, 5, none⟩ = false := frozen_of_blk hb2
  have HB2 : Hid (w2.heap[b]? = some (.cells (chanB y (.slice (some ⟨g, 0, none⟩) n cap) age) 153)) := hb2
  have HOW : Hid (w2.ownsRow 0 63 1 (.slice (some ⟨g, 0, none⟩) (n - 1) cap) (n - 1) (vs.drop 1)) := hown2
  have HF2 : Hid (Frm (isB g) w w2) := hf2
  clear hb2 hown2 hf2
  go_wp2_with fail
  go_ret2
  refine ⟨rfl, ⟨by rw [blk_set 5 _ HB2.out]; rfl, owns_keep HOW.out fun k hk => blk_far 5 _ (fun e => ?_), fun e => ?_⟩, ?_⟩
  · have : some g = some k := hk
    cases this
    exact hgb e
  · have : some g = some b := e
    cases this
    exact hgb rfl
  · exact Frm.set (HF2.out.mono fun k hk => (.inr hk : k = b ∨ k = g)) (.inl (.inl rfl)) _ _
end Go.Proofs.YteioennfpkoagaaGreatDoor.C
namespace Go.Proofs.YteioennfpkoagaaGreatDoor.C
open Go.RowKit K
attribute [local go_sem ↓] Go.wp_at_zero Go.wp_at_succ

/- a kernel lies on, with more blocks perhaps -/
structure Nx (L L' : Lay) (w w' : World) : Prop where
  kb : L'.kb = L.kb
  frm : Frm L.o w w'
  new : newO L.o L'.o w
theorem Nx.same {L : Lay} {w w' : World} (h : Frm L.o w w') : Nx L L w w' := ⟨rfl, h, newO.refl _ _⟩
section
variable {w w' W2 : World} {L : Lay} {D : ManD} {S : KS} {pl : List Int} {ps : List PartD} {cs : List ChanD} {tm : Nat}
theorem KVi.sent (h : KVi w L pl ps cs S) {c : Nat} {y : ChanD} (hy : cs[c]? = some y) {mv0 mv' m' : Value} {age : Int} {n0 : Nat} {vs0 : List Value} {t : ByteArray} {ms0 : List MsgD}
    (hput : PutR W2 (L.cb c) y mv0 age n0 vs0 t w' mv' m') (hf2 : Frm (isB (L.cb c)) w W2) (hs2 : W2.heap.size = w.heap.size)
    (hrow : ∀ k, mv0.ownBlock = some k → L.rl k = some (.msg c)) (hown0 : W2.ownsRow 0 63 1 mv0 n0 vs0) (hn0 : ms0.length = n0)
    (hms : ∀ k (hk : k < ms0.length), ∃ v, vs0[k]? = some v ∧ MsgV W2 (fun b => L.rl b = some (.msg c)) v ms0[k].text) (tm : Nat)
    (ha : AgeOK (setCh S c (ms0 ++ [⟨t, tm⟩])) y c age) (hsz : ∀ m ∈ ms0, (m.text.size : Int) ≤ y.size) (hts : (t.size : Int) ≤ y.size) (hd : ((ms0.length + 1 : Nat) : Int) ≤ y.depth) :
    ∃ L', KVi w' L' pl ps cs (setCh S c (ms0 ++ [⟨t, tm⟩])) ∧ Nx L L' w w' := by
  have hro : L.rl (L.cb c) = some (.chan c) := by obtain ⟨_, _, h1, _⟩ := h.chan c y hy; exact h1
  have hvl : vs0.length = ms0.length := by have := hown0.1; omega
  have hsz2 : w.heap.size ≤ w'.heap.size := by have := hput.frm.size; omega
  let rl' : Nat → Option Role := fun k => if w.heap.size ≤ k ∧ k < w'.heap.size then some (.msg c) else L.rl k
  have hold : ∀ b, L.rl b ≠ none → rl' b = L.rl b := fun b hb => if_neg (fun e => by have := h.s.low b hb; omega)
  have hnew : ∀ b, w.heap.size ≤ b → b < w'.heap.size → rl' b = some (.msg c) := fun b h1 h2 => if_pos ⟨h1, h2⟩
  have hback : ∀ b, rl' b ≠ none → L.rl b ≠ none ∨ (w.heap.size ≤ b ∧ b < w'.heap.size) := fun b hb => by
    by_cases e : w.heap.size ≤ b ∧ b < w'.heap.size
    · exact .inr e
    · exact .inl (by show L.rl b ≠ none; have : rl' b = L.rl b := if_neg e; rw [← this]; exact hb)
  have hfar : ∀ b, b < w.heap.size → b ≠ L.cb c → mv0.ownBlock ≠ some b → w'.heap[b]? = w.heap[b]? := fun b h1 h2 h3 => by
    rw [hput.frm.block b (by omega) (fun e => by rcases e with e | e; exact h2 e; exact h3 e), hf2.block b h1 h2]
  refine ⟨{ L with rl := rl' }, h.setChan hy rl' hold (fun b hb => ?_) (fun b hb hne hnm => hfar b (h.s.low b hb) hne (fun e => hnm (hrow b e))) mv' age (ms0 ++ [⟨t, tm⟩]) hput.blk ?_ ha (fun m hm => ?_) (by simpa using hd), rfl, ?_, fun b hb => ?_⟩
  · rcases hback b hb with e | e
    · have := h.s.low b e; omega
    · exact e.2
  · refine ⟨vs0 ++ [m'], by simp [hvl], by rw [List.length_append, hn0]; exact hput.own, fun b hb => ?_, fun k hk => ?_⟩
    · have hlt := (hput.own.lt b hb).2
      rcases hput.new b hb with e | e
      · show rl' b = _
        rw [hold b (by rw [hrow b e]; simp)]
        exact hrow b e
      · exact hnew b (by omega) hlt
    · by_cases e : k < ms0.length
      · obtain ⟨v, hv1, b, cap, arr, fr, hv2, hv3, hv4, hv5⟩ := hms k e
        refine ⟨v, by rw [List.getElem?_append_left (by omega)]; exact hv1, b, cap, arr, fr, ?_, ?_, ?_, ?_⟩
        · rw [hv2]; simp [List.getElem_append_left e]
        · show rl' b = _
          rw [hold b (by rw [hv3]; simp)]; exact hv3
        · have hbl := lt_of_blk hv4
          rw [hput.frm.block b hbl (fun e2 => ?_)]
          · exact hv4
          · rcases e2 with e2 | e2
            · exact ne_role hv3 hro (by simp) e2
            · exact own_not_blk hown0 hv4 (by decide) e2.symm
        · intro q hq
          have hq' : q < ms0[k].text.size := by simpa [List.getElem_append_left e] using hq
          have := hv5 q hq'
          simp only [List.getElem_append_left e]
          exact this
      · have hk2 : k = ms0.length := by simp at hk; omega
        subst hk2
        obtain ⟨b, cap, arr, fr, hv2, hv3, hv4, hv5⟩ := hput.msg
        refine ⟨m', by rw [List.getElem?_append_right (by omega)]; simp [hvl], b, cap, arr, fr, ?_, hnew b (by have : W2.heap.size ≤ b := hv3; omega) (lt_of_blk hv4), hv4, ?_⟩
        · rw [hv2]; simp
        · intro q hq
          have hq' : q < t.size := by simpa using hq
          have := hv5 q hq'
          simp
          exact this
  · rcases List.mem_append.1 hm with hm | hm
    · exact hsz m hm
    · simp at hm
      subst hm
      exact hts
  · refine ⟨hput.frm.os.trans hf2.os, hput.frm.tape.trans hf2.tape, hput.frm.output.trans hf2.output, by omega, fun k hk hn => hfar k hk (fun e => hn (by rw [e]; exact rl_ne hro)) (fun e => hn (rl_ne (hrow k e)))⟩
  · rcases hback b hb with e | e
    · exact .inl e
    · exact .inr e.1
end
end Go.Proofs.YteioennfpkoagaaGreatDoor.C
namespace Go.Proofs.YteioennfpkoagaaGreatDoor.C
open Go.RowKit K
attribute [local go_sem ↓] Go.wp_at_zero Go.wp_at_succ

section
variable {w w' : World} {L : Lay} {D : ManD} {S : KS}
theorem chan_good (hz : checkF D = 0) {c : Nat} {y : ChanD} (hy : D.chans[c]? = some y) : (0 ≤ y.source ∧ y.source < D.parts.length) ∧ (0 ≤ y.target ∧ y.target < D.parts.length) ∧ (1 ≤ y.kind ∧ y.kind ≤ 2) ∧ (1 ≤ y.size ∧ y.size ≤ 32) ∧ 1 ≤ y.depth ∧ y.depth ≤ 240 := by
  have hco := check_ok hz
  obtain ⟨hc, rfl⟩ := List.getElem?_eq_some_iff.1 hy
  have := chanErr_ok (hco.2.2.2.2.2 c hc) (by omega)
  omega
theorem port_none {c : Int} (h : c < 0 ∨ (D.chans.length : Int) ≤ c) : portF D c = none := by
  unfold portF
  split
  · rfl
  · rw [List.getElem?_eq_none (by omega)]
theorem port_some {d : Nat} {y : ChanD} (hy : D.chans[d]? = some y) : portF D d = some y := by
  unfold portF
  rw [if_neg (by omega), Int.toNat_natCast]
  exact hy
theorem Fx.nx (h : Fx L w w') : Nx L L w w' := Nx.same h.frm
theorem Nx.pre {L' : Lay} {w0 : World} (h : Nx L L' w w') (hb : Below w0.heap.size w0 w) : Nx L L' w0 w' :=
  ⟨h.kb, (Frm.all _ hb).trans h.frm (newO.refl _ _), fun b hb' => by
    rcases h.new b hb' with e | e
    · exact .inl e
    · exact .inr (by have := hb.size; omega)⟩
set_option maxRecDepth 100000 in
set_option maxHeartbeats 4000000 in
theorem ksend_any (hz : checkF D = 0) (h : KVi w L (planF D) D.parts D.chans S) (p c : Int) (t : ByteArray) (hp : inR p) (hc : inR c) (_ht : t.size ≤ 9223372036854775807) :
    Calls Tryz.prog 31 #[ptrV L.kb, .int .i64 p, .int .i64 c, .string t] w fun e w' => e = .returned (.int .i64 (sendF D S p c t).1) ∧ ∃ L', KVi w' L' (planF D) D.parts D.chans (sendF D S p c t).2 ∧ Nx L L' w w' := by
  have hcl : D.chans.length ≤ 8 := (check_ok hz).2.2.2.1
  have HACT : Hid _ := acting_any hz h p hp
  have HH : Hid (KVi w L (planF D) D.parts D.chans S) := h
  have HZ : Hid (checkF D = 0) := hz
  clear h hz
  unfold ptrV at HACT ⊢
  go_enter Tryz.func31, Tryz.ntmps31
  go_wp2_with fail
  refine Calls.mono HACT.out ?_
  rintro e w1 ⟨hact, hb1⟩
  have HB1 : Hid (Below w.heap.size w w1) := hb1
  have HK1 : Hid (KVi w1 L (planF D) D.parts D.chans S) := HH.out.below hb1
  clear hb1 HACT
  rcases hact with ⟨htn, rfl⟩ | ⟨htn, i, rfl, hi, rfl⟩
  · have HR : Hid (sendF D S p c t = (turnF D S p, S)) := by show _ = _; unfold sendF; rw [if_pos htn]
    generalize turnF D S p = tn at *
    go_wp2_with fail
    go_ret
    rw [HR.out]
    exact ⟨rfl, L, HK1.out, (Fx.all HB1.out).nx⟩
  · have HT : Hid (turnF D S i = 0) := htn
    have HCA : Hid _ := channelAt_any HK1.out.s c hc (by omega)
    clear htn
    unfold ptrV at HCA ⊢
    go_wp2_with fail
    refine Calls.mono HCA.out ?_
    rintro e w2 ⟨hpt, hw2⟩
    subst hw2
    rcases hpt with ⟨hno, rfl⟩ | ⟨d, rfl, hd, rfl⟩
    · have HR : Hid (sendF D S i c t = (23, S)) := by
        show _ = _
        unfold sendF
        rw [if_neg (by simp [HT.out]), port_none hno]
      clear hno
      go_wp2_with fail
      go_ret
      rw [HR.out]
      exact ⟨rfl, L, HK1.out, (Fx.all HB1.out).nx⟩
    · unfold ptrV
      obtain ⟨y, hy⟩ : ∃ y, D.chans[d]? = some y := ⟨_, List.getElem?_eq_getElem hd⟩
      obtain ⟨hg1, hg2, hg3, hg4, hg5⟩ := chan_good HZ.out hy
      obtain ⟨mv, age, hro, hbk, hmsgs, hage, hsizes, hlen⟩ := HK1.out.chan d y hy
      obtain ⟨vs, hv1, hv2, hv3, hv4⟩ := hmsgs
      obtain ⟨va, cp, rfl⟩ := own_slice hv2
      have c0 : w2.cell? ⟨L.cb d, 0, none⟩ = some (.int .i64 y.source) := by rw [cell_of_blk hbk]; rfl
      have c2 : w2.cell? ⟨L.cb d, 2, none⟩ = some (.bool (decide (y.kind = 1))) := by rw [cell_of_blk hbk]; rfl
      have c3 : w2.cell? ⟨L.cb d, 3, none⟩ = some (.int .i64 y.size) := by rw [cell_of_blk hbk]; rfl
      have c4 : w2.cell? ⟨L.cb d, 4, none⟩ = some (.int .i64 y.depth) := by rw [cell_of_blk hbk]; rfl
      have c5 : w2.cell? ⟨L.cb d, 5, none⟩ = some (.slice va (S.chs d).length cp) := by rw [cell_of_blk hbk]; rfl
      have HPS : Hid (portF D d = some y) := port_some hy
      have HY : Hid (D.chans[d]? = some y) := hy
      have HSF : Hid (sendF D S i d t = if y.source ≠ (i : Int) then (23, S) else if y.size < (t.size : Int) then (24, S) else if y.kind = 1 then (if y.depth ≤ ((S.chs d).length : Int) then (25, S) else (0, setCh S d (S.chs d ++ [⟨t, S.time⟩]))) else (0, setCh S d [⟨t, S.time⟩])) := by
        show _ = _
        unfold sendF
        rw [if_neg (by simp [HT.out]), HPS.out, Int.toNat_natCast]
      by_cases hsrc : y.source = (i : Int)
      · by_cases hsz : y.size < (t.size : Int)
        · have HR : Hid (sendF D S i d t = (24, S)) := by
            show _ = _
            rw [HSF.out, if_neg (by simp [hsrc]), if_pos hsz]
          clear HSF hbk hv1 hv2 hv3 hv4 hage
          rw [hsrc] at c0
          go_wp2_with fail
          go_ret
          rw [HR.out]
          exact ⟨rfl, L, HK1.out, (Fx.all HB1.out).nx⟩
        · have HFU : Hid _ := isFull_any (w := w2) (L.cb d) (S.chs d).length cp va (decide (y.kind = 1)) y.depth c2 c4 c5
          have HSZ : Hid ((t.size : Int) ≤ y.size) := by show _ ≤ _; omega
          have HHS : Hid (∀ m ∈ S.chs d, (m.text.size : Int) ≤ y.size) := hsizes
          have HBK : Hid (w2.heap[L.cb d]? = some (.cells (chanB y (.slice va (S.chs d).length cp) age) 153)) := hbk
          have HOW : Hid (w2.ownsRow 0 63 1 (.slice va (S.chs d).length cp) (S.chs d).length vs) := hv2
          have HRW : Hid (∀ b, (Value.slice va (S.chs d).length cp).ownBlock = some b → L.rl b = some (.msg d)) := hv3
          have HMS : Hid (∀ k (h : k < (S.chs d).length), ∃ v, vs[k]? = some v ∧ MsgV w2 (fun b => L.rl b = some (.msg d)) v (S.chs d)[k].text) := hv4
          have HAG : Hid (AgeOK S y d age) := hage
          have HRO : Hid (L.rl (L.cb d) = some (.chan d)) := hro
          clear hbk hv1 hv2 hv3 hv4 hage hsizes c2 c4 c5 hro hy
          have hsz2 : ¬ y.size < (t.size : Int) := hsz
          by_cases hkd : y.kind = 1
          · have e1 : decide (y.kind = 1) = true := decide_eq_true hkd
            by_cases hfull : y.depth ≤ ((S.chs d).length : Int)
            · have HR : Hid (sendF D S i d t = (25, S)) := by
                show _ = _
                rw [HSF.out, if_neg (by simp [hsrc]), if_neg hsz, if_pos hkd, if_pos hfull]
              have e2 : (decide (y.kind = 1) && decide (((S.chs d).length : Int) = y.depth)) = true := by
                rw [e1, decide_eq_true (by omega)]; rfl
              rw [e2] at HFU
              clear HSF hfull hlen
              unfold ptrV at HFU
              rw [hsrc] at c0
              go_wp2_with fail
              refine Calls.mono HFU.out ?_
              rintro e w3 ⟨rfl, hb3⟩
              go_wp2_with fail
              go_ret
              rw [HR.out]
              exact ⟨rfl, L, HK1.out.below hb3, (Fx.all (HB1.out.trans (hb3.mono HB1.out.size))).nx⟩
            · have HR : Hid (sendF D S i d t = (0, setCh S d (S.chs d ++ [⟨t, S.time⟩]))) := by
                show _ = _
                rw [HSF.out, if_neg (by simp [hsrc]), if_neg hsz, if_pos hkd, if_neg hfull]
              have e2 : (decide (y.kind = 1) && decide (((S.chs d).length : Int) = y.depth)) = false := by
                rw [e1, decide_eq_false (by omega)]; rfl
              rw [e2] at HFU
              have HDL : Hid (((S.chs d).length : Int) + 1 ≤ y.depth) := by show _ ≤ _; omega
              have hln : (S.chs d).length ≤ 255 := by omega
              clear HSF hfull hlen
              unfold ptrV at HFU
              rw [hsrc] at c0
              go_wp2_with fail
              refine Calls.mono HFU.out ?_
              rintro e w3 ⟨rfl, hb3⟩
              have HK3 : Hid (KVi w3 L (planF D) D.parts D.chans S) := HK1.out.below hb3
              have HBK3 : Hid (w3.heap[L.cb d]? = some (.cells (chanB y (.slice va (S.chs d).length cp) age) 153)) := (hb3.block _ (lt_of_blk HBK.out)).trans HBK.out
              have HOW3 : Hid (w3.ownsRow 0 63 1 (.slice va (S.chs d).length cp) (S.chs d).length vs) := own_stays HOW.out hb3
              have HB3 : Hid (Below w.heap.size w w3) := HB1.out.trans (hb3.mono HB1.out.size)
              have HMS3 : Hid (∀ k (h : k < (S.chs d).length), ∃ v, vs[k]? = some v ∧ MsgV w3 (fun b => L.rl b = some (.msg d)) v (S.chs d)[k].text) := fun k hk => by
                obtain ⟨v, h1, h2⟩ := HMS.out k hk
                exact ⟨v, h1, h2.keep fun b hb => hb3.block b (HK1.out.s.low b (rl_ne hb))⟩
              have HPUT : Hid _ := put_queue w3 (L.cb d) y (.slice va (S.chs d).length cp) age (S.chs d).length vs t hkd ⟨HBK3.out, HOW3.out, fun e => ne_role HRO.out (HRW.out _ e) (by simp) rfl⟩ hln
              clear hb3 HBK HOW HMS
              unfold ptrV at HPUT
              go_wp2_with fail
              refine Calls.mono HPUT.out ?_
              rintro e w4 ⟨rfl, mv', m', hput⟩
              go_wp2_with fail
              go_ret
              rw [HR.out]
              obtain ⟨L', hk', hn'⟩ := HK3.out.sent HY.out hput (Frm.refl _ _) rfl HRW.out HOW3.out rfl HMS3.out S.time ⟨HAG.out.1, HAG.out.2.1, fun e => absurd hkd e⟩ HHS.out HSZ.out (by have := HDL.out; push_cast; omega)
              exact ⟨rfl, L', hk', hn'.pre HB3.out⟩
          · have HR : Hid (sendF D S i d t = (0, setCh S d [⟨t, S.time⟩])) := by
              show _ = _
              rw [HSF.out, if_neg (by simp [hsrc]), if_neg hsz, if_neg hkd]
            have e1 : decide (y.kind = 1) = false := decide_eq_false hkd
            rw [e1, Bool.false_and] at HFU
            have HDP : Hid (1 ≤ y.depth) := hg5.1
            clear HSF hlen
            unfold ptrV at HFU
            rw [hsrc] at c0
            go_wp2_with fail
            refine Calls.mono HFU.out ?_
            rintro e w3 ⟨rfl, hb3⟩
            have HK3 : Hid (KVi w3 L (planF D) D.parts D.chans S) := HK1.out.below hb3
            have HBK3 : Hid (w3.heap[L.cb d]? = some (.cells (chanB y (.slice va (S.chs d).length cp) age) 153)) := (hb3.block _ (lt_of_blk HBK.out)).trans HBK.out
            have HB3 : Hid (Below w.heap.size w w3) := HB1.out.trans (hb3.mono HB1.out.size)
            have HPUT : Hid _ := put_sample w3 (L.cb d) y (.slice va (S.chs d).length cp) age t hkd HBK3.out
            clear hb3 HBK HOW HMS
            unfold ptrV at HPUT
            go_wp2_with fail
            refine Calls.mono HPUT.out ?_
            rintro e w4 ⟨rfl, W2, mv', m', hput, hf2, hs2⟩
            go_wp2_with fail
            go_ret
            rw [HR.out]
            have hdp := HDP.out
            have e9 : (setCh S d ([] ++ [⟨t, S.time⟩])).chs d = [⟨t, S.time⟩] := by show (if d = d then _ else _) = _; rw [if_pos rfl]; rfl
            have hage9 : AgeOK (setCh S d ([] ++ [⟨t, S.time⟩])) y d 0 := by
              refine ⟨by omega, by omega, fun _ => ⟨by rw [e9]; simp, fun m hm => ?_⟩⟩
              rw [e9] at hm
              simp only [List.mem_singleton] at hm
              subst hm
              refine ⟨Nat.le_refl _, ?_⟩
              show (0 : Int) = if (S.time : Int) - S.time ≤ y.depth then (S.time : Int) - S.time else y.depth + 1
              rw [if_pos (by omega)]; omega
            obtain ⟨L', hk', hn'⟩ := HK3.out.sent HY.out (ms0 := []) hput hf2 hs2 (fun k hk => by cases hk) (World.ownsRow_nil _ _ _ _) rfl (fun k hk => by simp at hk) S.time hage9 (fun m hm => by cases hm) HSZ.out (by simp; omega)
            exact ⟨rfl, L', hk', hn'.pre HB3.out⟩
      · have HR : Hid (sendF D S i d t = (23, S)) := by
          show _ = _
          rw [HSF.out, if_pos hsrc]
        clear HSF hbk hv1 hv2 hv3 hv4 hage
        go_wp2_with fail
        go_ret
        rw [HR.out]
        exact ⟨rfl, L, HK1.out, (Fx.all HB1.out).nx⟩
end
end Go.Proofs.YteioennfpkoagaaGreatDoor.C
namespace Go.Proofs.YteioennfpkoagaaGreatDoor.C
open Go.RowKit K
attribute [local go_sem ↓] Go.wp_at_zero Go.wp_at_succ

def rcv1 (S : KS) (y : ChanD) (d : Nat) : (ByteArray × Bool × Int) × KS :=
  match S.chs d with
  | [] => ((ByteArray.empty, false, 26), S)
  | m :: l => if y.kind = 1 then ((m.text, true, 0), setCh S d l) else ((m.text, decide ((S.time : Int) - m.time ≤ y.depth), 0), S)
section
variable {w w' : World} {L : Lay} {D : ManD} {S : KS} {pl : List Int} {ps : List PartD} {cs : List ChanD}
theorem KVi.taken (h : KVi w L pl ps cs S) {c : Nat} {y : ChanD} (hy : cs[c]? = some y) (hk : y.kind = 1) {g cap : Nat} {age : Int} {vs : List Value} {m : MsgD} {ms : List MsgD} (hms : S.chs c = m :: ms)
    (_hbk : w.heap[L.cb c]? = some (.cells (chanB y (.slice (some ⟨g, 0, none⟩) (ms.length + 1) cap) age) 153)) (hg : L.rl g = some (.msg c)) (hvs : vs.length = ms.length + 1) (hown : w.ownsRow 0 63 1 (.slice (some ⟨g, 0, none⟩) (ms.length + 1) cap) (ms.length + 1) vs)
    (hmv : ∀ k (hk : k < (m :: ms).length), ∃ v, vs[k]? = some v ∧ MsgV w (fun b => L.rl b = some (.msg c)) v (m :: ms)[k].text)
    (hage : AgeOK S y c age) (hsz : ∀ q ∈ S.chs c, (q.text.size : Int) ≤ y.size) (hlen : ((S.chs c).length : Int) ≤ y.depth)
    (hch : ChB w' (L.cb c) y (.slice (some ⟨g, 0, none⟩) ms.length cap) age ms.length (vs.drop 1)) (hf : Frm (fun k => k = L.cb c ∨ k = g) w w') :
    KVi w' L pl ps cs (setCh S c ms) ∧ Fx L w w' := by
  have hro : L.rl (L.cb c) = some (.chan c) := by obtain ⟨_, _, h1, _⟩ := h.chan c y hy; exact h1
  have hfar : ∀ b, b < w.heap.size → b ≠ L.cb c → b ≠ g → w'.heap[b]? = w.heap[b]? := fun b h1 h2 h3 => hf.block b h1 (fun e => by rcases e with e | e; exact h2 e; exact h3 e)
  refine ⟨h.setChan hy L.rl (fun _ _ => rfl) (fun b hb => by have := h.s.low b hb; have := hf.size; omega) (fun b hb hne hnm => hfar b (h.s.low b hb) hne (fun e => hnm (by rw [e]; exact hg))) _ age ms hch.blk ⟨vs.drop 1, by rw [List.length_drop, hvs]; omega, hch.own, fun b hb => ?_, fun k hk2 => ?_⟩ ⟨hage.1, hage.2.1, fun e => absurd hk e⟩ (fun q hq => hsz q (by rw [hms]; simp [hq])) ?_, ?_, fun b hb hl => ?_⟩
  · have : some g = some b := hb
    cases this
    exact hg
  · obtain ⟨v, h1, h2⟩ := hmv (k + 1) (by simpa using hk2)
    refine ⟨v, by rw [List.getElem?_drop, Nat.add_comm]; exact h1, ?_⟩
    obtain ⟨b, cap2, arr, fr, h3, h4, h5, h6⟩ := h2
    refine ⟨b, cap2, arr, fr, h3, h4, ?_, h6⟩
    rw [hfar b (lt_of_blk h5) (ne_role h4 hro (by simp)) (fun e => own_not_blk hown h5 (by decide) (by rw [e]; rfl))]
    exact h5
  · rw [hms] at hlen
    simp only [List.length_cons] at hlen
    push_cast at hlen
    omega
  · exact hf.mono fun k hk2 => by
      rcases hk2 with e | e
      · rw [e]; exact rl_ne hro
      · rw [e]; exact rl_ne hg
  · exact hfar b hl (ne_role hb hro (by simp)) (ne_role hb hg (by simp))
set_option maxRecDepth 100000 in
set_option maxHeartbeats 4000000 in
theorem krecv_any (hz : checkF D = 0) (h : KVi w L (planF D) D.parts D.chans S) (p c : Int) (hp : inR p) (hc : inR c) :
    Calls Tryz.prog 32 #[ptrV L.kb, .int .i64 p, .int .i64 c] w fun e w' => e = .returned (.tuple #[.string (recvF D S p c).1.1, .bool (recvF D S p c).1.2.1, .int .i64 (recvF D S p c).1.2.2]) ∧ KVi w' L (planF D) D.parts D.chans (recvF D S p c).2 ∧ Fx L w w' := by
  have hcl : D.chans.length ≤ 8 := (check_ok hz).2.2.2.1
  have HACT : Hid _ := acting_any hz h p hp
  have HH : Hid (KVi w L (planF D) D.parts D.chans S) := h
  have HZ : Hid (checkF D = 0) := hz
  clear h hz
  unfold ptrV at HACT ⊢
  go_enter Tryz.func32, Tryz.ntmps32
  go_wp2_with fail
  refine Calls.mono HACT.out ?_
  rintro e w1 ⟨hact, hb1⟩
  have HB1 : Hid (Below w.heap.size w w1) := hb1
  have HK1 : Hid (KVi w1 L (planF D) D.parts D.chans S) := HH.out.below hb1
  clear hb1 HACT
  rcases hact with ⟨htn, rfl⟩ | ⟨htn, i, rfl, hi, rfl⟩
  · have HR : Hid (recvF D S p c = ((ByteArray.empty, false, turnF D S p), S)) := by show _ = _; unfold recvF; rw [if_pos htn]
    generalize turnF D S p = tn at *
    go_wp2_with fail
    go_ret3
    rw [HR.out]
    exact ⟨rfl, HK1.out, Fx.all HB1.out⟩
  · have HT : Hid (turnF D S i = 0) := htn
    have HCA : Hid _ := channelAt_any HK1.out.s c hc (by omega)
    clear htn
    unfold ptrV at HCA ⊢
    go_wp2_with fail
    refine Calls.mono HCA.out ?_
    rintro e w2 ⟨hpt, hw2⟩
    subst hw2
    rcases hpt with ⟨hno, rfl⟩ | ⟨d, rfl, hd, rfl⟩
    · have HR : Hid (recvF D S i c = ((ByteArray.empty, false, 23), S)) := by
        show _ = _
        unfold recvF
        rw [if_neg (by simp [HT.out]), port_none hno]
      clear hno
      go_wp2_with fail
      go_ret3
      rw [HR.out]
      exact ⟨rfl, HK1.out, Fx.all HB1.out⟩
    · unfold ptrV
      obtain ⟨y, hy⟩ : ∃ y, D.chans[d]? = some y := ⟨_, List.getElem?_eq_getElem hd⟩
      obtain ⟨hg1, hg2, hg3, hg4, hg5⟩ := chan_good HZ.out hy
      obtain ⟨mv, age, hro, hbk, hmsgs, hage, hsizes, hlen⟩ := HK1.out.chan d y hy
      obtain ⟨vs, hv1, hv2, hv3, hv4⟩ := hmsgs
      obtain ⟨va, cp, rfl⟩ := own_slice hv2
      have c1 : w2.cell? ⟨L.cb d, 1, none⟩ = some (.int .i64 y.target) := by rw [cell_of_blk hbk]; rfl
      have c5 : w2.cell? ⟨L.cb d, 5, none⟩ = some (.slice va (S.chs d).length cp) := by rw [cell_of_blk hbk]; rfl
      have HPS : Hid (portF D d = some y) := port_some hy
      have HY : Hid (D.chans[d]? = some y) := hy
      have HRF : Hid (recvF D S i d = if y.target ≠ (i : Int) then ((ByteArray.empty, false, 23), S) else rcv1 S y d) := by
        show _ = _
        unfold recvF
        rw [if_neg (by simp [HT.out]), HPS.out, Int.toNat_natCast]
        rfl
      by_cases htg : y.target = (i : Int)
      · have HEM : Hid _ := isEmpty_any (w := w2) (L.cb d) (S.chs d).length cp va c5 (by omega)
        have HAGE : Hid (AgeOK S y d age) := hage
        have HSIZ : Hid (∀ m ∈ S.chs d, (m.text.size : Int) ≤ y.size) := hsizes
        have HLEN : Hid (((S.chs d).length : Int) ≤ y.depth) := hlen
        have hln : (S.chs d).length ≤ 255 := by omega
        rw [htg] at c1
        cases hms : S.chs d with
        | nil =>
          have HR : Hid (recvF D S i d = ((ByteArray.empty, false, 26), S)) := by
            show _ = _
            rw [HRF.out, if_neg (by simp [htg])]
            unfold rcv1
            rw [hms]
          rw [hms] at HEM
          clear HRF hbk hv1 hv2 hv3 hv4 hage hlen hsizes c5
          unfold ptrV at HEM
          go_wp2_with fail
          refine Calls.mono HEM.out ?_
          rintro e w3 ⟨rfl, hw3⟩
          subst hw3
          go_wp2_with fail
          go_ret3
          rw [HR.out]
          exact ⟨rfl, HK1.out, Fx.all HB1.out⟩
        | cons m ms =>
          have HMS : Hid (S.chs d = m :: ms) := hms
          rw [hms] at HEM hbk hv1 hv2 hv4 hln
          have e1 : decide ((m :: ms).length = 0) = false := by simp
          rw [e1] at HEM
          have hrow := hv3
          rw [hms] at hrow
          rcases hv2.2 with ⟨_, h0⟩ | ⟨g, cap, cur, hsl, _, _, _, _, _⟩
          · simp at h0
          obtain ⟨rfl, rfl⟩ : va = some ⟨g, 0, none⟩ ∧ cp = cap := by cases hsl; exact ⟨rfl, rfl⟩
          have hgr : L.rl g = some (.msg d) := hrow g rfl
          obtain ⟨v, hv5, hv6⟩ := hv4 0 (by simp)
          have hv6' : MsgV w2 (fun b => L.rl b = some (.msg d)) v m.text := hv6
          by_cases hkd : y.kind = 1
          · have HR : Hid (recvF D S i d = ((m.text, true, 0), setCh S d ms)) := by
              show _ = _
              rw [HRF.out, if_neg (by simp [htg])]
              unfold rcv1
              rw [hms]
              simp only []
              rw [if_pos hkd]
            have HTK : Hid _ := take_queue w2 (L.cb d) y age g cp (ms.length + 1) vs v (fun b => L.rl b = some (.msg d)) m.text hkd ⟨hbk, hv2, fun e => ne_role hro hgr (by simp) (by have : some g = some (L.cb d) := e; cases this; rfl)⟩ (by omega) (by simpa using hln) hv5 (fun u hu => by
                obtain ⟨k, hk, rfl⟩ := List.getElem_of_mem hu
                obtain ⟨v', h1, b', cp', arr', fr', h2, _⟩ := hv4 k (by rw [← hv1]; exact hk)
                rw [List.getElem?_eq_getElem hk] at h1
                cases h1
                rw [h2]; rfl) hv6'
            have HTAK : Hid (∀ w', ChB w' (L.cb d) y (.slice (some ⟨g, 0, none⟩) ms.length cp) age ms.length (vs.drop 1) → Frm (fun k => k = L.cb d ∨ k = g) w2 w' → KVi w' L (planF D) D.parts D.chans (setCh S d ms) ∧ Fx L w2 w') :=
              fun w' h1 h2 => HK1.out.taken HY.out hkd HMS.out hbk hgr (by simpa using hv1) hv2 hv4 HAGE.out HSIZ.out HLEN.out h1 h2
            clear HRF hbk hv1 hv2 hv3 hv4 hage hlen hsizes c5 hrow hsl hv6 hv6' hv5 hms
            unfold ptrV at HEM HTK
            go_wp2_with fail
            refine Calls.mono HEM.out ?_
            rintro e w3 ⟨rfl, hw3⟩
            subst hw3
            go_wp2_with fail
            refine Calls.mono HTK.out ?_
            rintro e w4 ⟨rfl, hch, hf4⟩
            go_wp2_with fail
            go_ret3
            rw [HR.out]
            obtain ⟨hk4, hx4⟩ := HTAK.out w4 hch hf4
            exact ⟨rfl, hk4, (Fx.all HB1.out).trans hx4⟩
          · have HR : Hid (recvF D S i d = ((m.text, decide (age ≤ y.depth), 0), S)) := by
              show _ = _
              rw [HRF.out, if_neg (by simp [htg])]
              unfold rcv1
              rw [hms]
              simp only []
              rw [if_neg hkd]
              obtain ⟨_, _, a3⟩ := HAGE.out
              obtain ⟨_, a5⟩ := a3 hkd
              obtain ⟨t1, t2⟩ := a5 m (by rw [hms]; simp)
              have : decide ((S.time : Int) - m.time ≤ y.depth) = decide (age ≤ y.depth) := by
                rw [t2]
                by_cases hh : (S.time : Int) - m.time ≤ y.depth
                · rw [if_pos hh]
                · rw [if_neg hh, decide_eq_false hh, decide_eq_false (by omega)]
              rw [this]
            have hl1 : ms = [] := by
              obtain ⟨_, _, a3⟩ := HAGE.out
              obtain ⟨a4, _⟩ := a3 hkd
              rw [hms] at a4
              cases ms with
              | nil => rfl
              | cons q qs => simp at a4
            subst hl1
            have hg0 : w2.cell? ⟨g, 0, none⟩ = some v := by
              rw [World.ownsRow.cellAt hv2 0 (by simp)]; exact hv5
            have HTK : Hid _ := take_sample w2 (L.cb d) y age g cp v (fun b => L.rl b = some (.msg d)) m.text hkd hbk hg0 hv6'
            clear HRF hbk hv1 hv2 hv3 hv4 hage hlen hsizes c5 hrow hsl hv6 hv6' hv5 hms hg0
            unfold ptrV at HEM HTK
            go_wp2_with fail
            refine Calls.mono HEM.out ?_
            rintro e w3 ⟨rfl, hw3⟩
            subst hw3
            go_wp2_with fail
            refine Calls.mono HTK.out ?_
            rintro e w4 ⟨rfl, hb4⟩
            go_wp2_with fail
            go_ret3
            rw [HR.out]
            exact ⟨rfl, HK1.out.below hb4, Fx.all (HB1.out.trans (hb4.mono HB1.out.size))⟩
      · have HR : Hid (recvF D S i d = ((ByteArray.empty, false, 23), S)) := by
          show _ = _
          rw [HRF.out, if_pos htg]
        clear HRF hbk hv1 hv2 hv3 hv4 hage
        go_wp2_with fail
        go_ret3
        rw [HR.out]
        exact ⟨rfl, HK1.out, Fx.all HB1.out⟩
end
end Go.Proofs.YteioennfpkoagaaGreatDoor.C
