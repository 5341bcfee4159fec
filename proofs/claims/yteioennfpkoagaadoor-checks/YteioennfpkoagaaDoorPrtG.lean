import Derived.Test.YteioennfpkoagaaDoorPrtF
namespace Go.Proofs.YteioennfpkoagaaDoor.C
open Go.RowKit
attribute [local go_sem ↓] Go.wp_at_zero Go.wp_at_succ

theorem wordK_len (n : Int) : (wordF kindL n).size ≤ 7 := by
  unfold kindL
  simp only [wordF]
  split
  · decide
  · split
    · decide
    · decide
theorem chanS_eq (ps : List PartD) (c : ChanD) (sn tn : ByteArray) (h1 : 1 ≤ c.kind) (h2 : c.kind ≤ 2) (hs : nameAt ps c.source = sn.data.toList) (ht : nameAt ps c.target = tn.data.toList) :
    [] ++ joinL [⟨#[99, 104, 97, 110, 110, 101, 108]⟩, c.name, sn, ⟨#[45, 62]⟩, tn, wordF kindL c.kind, ba (decF c.size), ba (decF c.depth)] ++ [59] ++ [10] = chanT ps c := by
  unfold chanT
  rw [hs, ht, join_cons, join_cons, join_cons, join_cons, join_cons, join_cons, join_cons, join_one, word_kind h1 h2, ba_data, ba_data, ba_data]
  simp
theorem nameAt_of {ps : List PartD} {i : Nat} (h : i < ps.length) : nameAt ps (i : Int) = ps[i].name.data.toList := by
  unfold nameAt
  rw [Int.toNat_natCast, List.getElem?_eq_getElem h]; rfl
set_option maxHeartbeats 4000000 in
set_option maxRecDepth 100000 in
theorem channel_any (W0 : World) (pb : Nat) (l : List UInt8) (c : ChanD) (ps : List PartD) (pv : Value) (w : World) (h : PS W0 pb l w) (ht : TB W0) (hpv : PartsV W0 pv ps) (hs : 0 ≤ c.source ∧ c.source < ps.length) (htg : 0 ≤ c.target ∧ c.target < ps.length) (hk : 1 ≤ c.kind ∧ c.kind ≤ 2) (hsz : 0 ≤ c.size ∧ c.size ≤ 240) (hdp : 0 ≤ c.depth ∧ c.depth ≤ 240) (hnm : c.name.size ≤ 16) (hns : ∀ i (h : i < ps.length), ps[i].name.size ≤ 16) (hl : l.length ≤ 900000) :
    Calls Tryd.prog 28 #[.pointer (some ⟨pb, 0, none⟩), .agg #[.string c.name, .int .i64 c.source, .int .i64 c.target, .int .i64 c.kind, .int .i64 c.size, .int .i64 c.depth], pv] w fun e w' => e = .returned (.tuple #[]) ∧ PS W0 pb (l ++ chanT ps c) w' ∧ Oth pb w w' := by
  obtain ⟨sc, hsc⟩ : ∃ sc : Nat, c.source = sc := ⟨c.source.toNat, by omega⟩
  obtain ⟨tg, htgt⟩ : ∃ tg : Nat, c.target = tg := ⟨c.target.toNat, by omega⟩
  have hsl : sc < ps.length := by omega
  have htl : tg < ps.length := by omega
  obtain ⟨va, cap, rfl, hc⟩ := hpv
  obtain ⟨b, off, rv, rfl, c0, _⟩ := hc sc hsl
  obtain ⟨b', off', rv', hbb, e0, _⟩ := hc tg htl
  cases hbb
  clear hc
  have sn16 := hns sc hsl
  have tn16 := hns tg htl
  have HEQ : Hid _ := chanS_eq ps c ps[sc].name ps[tg].name hk.1 hk.2 (by rw [hsc]; exact nameAt_of hsl) (by rw [htgt]; exact nameAt_of htl)
  clear hns
  rw [hsc, htgt]
  generalize ps[sc].name = sn at *
  generalize ps[tg].name = tn at *
  clear hsc htgt hs htg
  have hbl := World.block_lt_of_cell? W0 _ c0
  have hsl' : (sc : Int) < (ps.length : Int) := by omega
  have htl' : (tg : Int) < (ps.length : Int) := by omega
  have hs0 : (0 : Int) ≤ (sc : Int) := by omega
  have ht0 : (0 : Int) ≤ (tg : Int) := by omega
  have hb0 := below_new w (.cells #[.string c.name, .int .i64 sc, .int .i64 tg, .int .i64 c.kind, .int .i64 c.size, .int .i64 c.depth] 53)
  have h0 := heap_new w (.cells #[.string c.name, .int .i64 sc, .int .i64 tg, .int .i64 c.kind, .int .i64 c.size, .int .i64 c.depth] 53)
  have hP0 := h.below hb0
  have hnb : w.heap.size ≠ pb := by have := h.lt; omega
  have o0 : Oth pb w (w.alloc (.cells #[.string c.name, .int .i64 sc, .int .i64 tg, .int .i64 c.kind, .int .i64 c.size, .int .i64 c.depth] 53)) := Oth.below hb0
  have HS : ∀ w' : World, w'.heap[w.heap.size]? = some (.cells #[.string c.name, .int .i64 sc, .int .i64 tg, .int .i64 c.kind, .int .i64 c.size, .int .i64 c.depth] 53 (0, 0)) → Below W0.heap.size W0 w' → ((w'.cell? ⟨w.heap.size, 0, none⟩ = some (.string c.name) ∧ w'.cell? ⟨w.heap.size, 1, none⟩ = some (.int .i64 sc) ∧ w'.cell? ⟨w.heap.size, 2, none⟩ = some (.int .i64 tg) ∧ w'.cell? ⟨w.heap.size, 3, none⟩ = some (.int .i64 c.kind) ∧ w'.cell? ⟨w.heap.size, 4, none⟩ = some (.int .i64 c.size) ∧ w'.cell? ⟨w.heap.size, 5, none⟩ = some (.int .i64 c.depth) ∧ w'.cell? ⟨b, off + sc * 5, none⟩ = some (.string sn) ∧ w'.cell? ⟨b, off + tg * 5, none⟩ = some (.string tn)) ∧ w'.heap[w.heap.size]? = some (.cells #[.string c.name, .int .i64 sc, .int .i64 tg, .int .i64 c.kind, .int .i64 c.size, .int .i64 c.depth] 53 (0, 0))) := fun w' hh hw => ⟨⟨by rw [cell_of_blk hh]; rfl, by rw [cell_of_blk hh]; rfl, by rw [cell_of_blk hh]; rfl, by rw [cell_of_blk hh]; rfl, by rw [cell_of_blk hh]; rfl, by rw [cell_of_blk hh]; rfl, (hw.cell (by exact hbl)).trans c0, (hw.cell (by exact hbl)).trans e0⟩, hh⟩
  have dr1 := dec_sz c.size
  have dr2 := dec_sz c.depth
  have dr3 := wordK_len c.kind
  have z1 : (⟨#[99, 104, 97, 110, 110, 101, 108]⟩ : ByteArray).size = 7 := rfl
  have z2 : (⟨#[45, 62]⟩ : ByteArray).size = 2 := rfl
  have hlen : l.length + ([] : List UInt8).length + (⟨#[99, 104, 97, 110, 110, 101, 108]⟩ : ByteArray).size + c.name.size + sn.size + (⟨#[45, 62]⟩ : ByteArray).size + tn.size + (wordF kindL c.kind).size + (ba (decF c.size)).size + (ba (decF c.depth)).size + 20 ≤ 1000000 := by simp only [List.length_nil]; omega
  clear h
  go_enter Tryd.func28, Tryd.ntmps28
  go_wp2_with fail
  generalize w.alloc (.cells #[.string c.name, .int .i64 sc, .int .i64 tg, .int .i64 c.kind, .int .i64 c.size, .int .i64 c.depth] 53) = V0 at *
  have hP : PS W0 pb l V0.drew := ⟨below_drewN hP0.1 1, hP0.2⟩
  have hB : V0.drew.heap[w.heap.size]? = _ := h0
  have HOT : Oth pb w V0.drew := o0
  go_region_held3 (fun w' => (w'.cell? ⟨w.heap.size, 0, none⟩ = some (.string c.name) ∧ w'.cell? ⟨w.heap.size, 1, none⟩ = some (.int .i64 sc) ∧ w'.cell? ⟨w.heap.size, 2, none⟩ = some (.int .i64 tg) ∧ w'.cell? ⟨w.heap.size, 3, none⟩ = some (.int .i64 c.kind) ∧ w'.cell? ⟨w.heap.size, 4, none⟩ = some (.int .i64 c.size) ∧ w'.cell? ⟨w.heap.size, 5, none⟩ = some (.int .i64 c.depth) ∧ w'.cell? ⟨b, off + sc * 5, none⟩ = some (.string sn) ∧ w'.cell? ⟨b, off + tg * 5, none⟩ = some (.string tn)) ∧ w'.heap[w.heap.size]? = some (.cells #[.string c.name, .int .i64 sc, .int .i64 tg, .int .i64 c.kind, .int .i64 c.size, .int .i64 c.depth] 53 (0, 0))) (first | exact HS _ hB hP.1 | exact HS _ (keepL hB (below_new _ _)) (hP.below (below_new _ _)).1) ((first
    | (go_at_call 26; refine (itoa_any _ _ ⟨by omega, by omega⟩ (ht.below hP.1)).mono ?_; rintro e w2 ⟨rfl, hb2⟩; have hP := hP.below hb2; have HOT := HOT.trans (Oth.below hb2); have hB := keepL hB hb2)
    | (go_at_call 46; refine (kinds_c _).mono ?_; rintro e w2 ⟨v, rfl, hv, hb2⟩; have hP := hP.below hb2; have HOT := HOT.trans (Oth.below hb2); have hB := keepL hB hb2)
    | (go_at_call 43; refine (wordFor_any kindL v _ _ (by exact hv) (by decide)).mono ?_; rintro e w2 ⟨rfl, hb2⟩; have hP := hP.below hb2; have HOT := HOT.trans (Oth.below hb2); have hB := keepL hB hb2)
    | (go_at_call 25; refine (stmt8 W0 pb l [] ⟨#[99, 104, 97, 110, 110, 101, 108]⟩ c.name sn ⟨#[45, 62]⟩ tn (wordF kindL c.kind) (ba (decF c.size)) (ba (decF c.depth)) w2 hP hlen).mono ?_; rintro e w7 ⟨rfl, hP, ho7⟩; have HOT := HOT.trans ho7; have hB := ho7.blk hB hnb (by decide))))
  have hPN := hP.eq (congrArg (l ++ ·) HEQ.out)
  go_wp2_with fail
  go_end0
  exact ⟨rfl, hPN, HOT⟩
end Go.Proofs.YteioennfpkoagaaDoor.C
