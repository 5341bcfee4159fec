import Derived.Test.YteioennfpkoagaaDoorPrtE
namespace Go.Proofs.YteioennfpkoagaaDoor.C
open Go.RowKit
attribute [local go_sem ↓] Go.wp_at_zero Go.wp_at_succ

set_option maxHeartbeats 3000000 in
set_option maxRecDepth 100000 in
theorem partition_any (W0 : World) (pb : Nat) (l : List UInt8) (x : PartD) (rv : Value) (w : World) (h : PS W0 pb l w) (ht : TB W0) (hrv : RegsV W0 rv x.regs) (hp : 0 ≤ x.period ∧ x.period ≤ 240) (hd : 0 ≤ x.duration ∧ x.duration ≤ 240) (ha : 1 ≤ x.action ∧ x.action ≤ 3) (hnm : x.name.size ≤ 16) (hrl : x.regs.length ≤ 4) (hro : ∀ r ∈ x.regs, regB r = true) (hl : l.length ≤ 900000) :
    Calls Tryd.prog 27 #[.pointer (some ⟨pb, 0, none⟩), .agg #[.string x.name, .int .i64 x.period, .int .i64 x.duration, .int .i64 x.action, rv]] w fun e w' => e = .returned (.tuple #[]) ∧ PS W0 pb (l ++ partT x) w' ∧ Oth pb w w' := by
  have HRV : Hid (RegsV W0 rv x.regs) := hrv
  obtain ⟨ra, rcap, rfl, hrx⟩ := hrv
  clear hrx
  have HRO : Hid _ := hro
  have HEQ : Hid _ := partS_eq ha.1 ha.2 hro
  clear hro
  have hb0 := below_new w (.cells #[.string x.name, .int .i64 x.period, .int .i64 x.duration, .int .i64 x.action, .slice ra x.regs.length rcap] 51)
  have h0 := heap_new w (.cells #[.string x.name, .int .i64 x.period, .int .i64 x.duration, .int .i64 x.action, .slice ra x.regs.length rcap] 51)
  have hP0 := h.below hb0
  have hnb : w.heap.size ≠ pb := by have := h.lt; omega
  have o0 : Oth pb w (w.alloc (.cells #[.string x.name, .int .i64 x.period, .int .i64 x.duration, .int .i64 x.action, .slice ra x.regs.length rcap] 51)) := Oth.below hb0
  have dl1 := dec_sz x.period
  have dl2 := dec_sz x.duration
  have dl3 := wordA_len x.action
  clear h
  go_enter Tryd.func27, Tryd.ntmps27
  go_wp2_with fail
  have hsz0 : w.heap.size + 1 = (w.alloc (.cells #[.string x.name, .int .i64 x.period, .int .i64 x.duration, .int .i64 x.action, .slice ra x.regs.length rcap] 51)).heap.size := by simp
  generalize w.alloc (.cells #[.string x.name, .int .i64 x.period, .int .i64 x.duration, .int .i64 x.action, .slice ra x.regs.length rcap] 51) = V0 at *
  rw [hsz0]
  have q1 := len3 ⟨#[112, 97, 114, 116, 105, 116, 105, 111, 110]⟩ x.name ⟨#[123]⟩
  have z1 : (⟨#[112, 97, 114, 116, 105, 116, 105, 111, 110]⟩ : ByteArray).size = 9 := rfl
  have z2 : (⟨#[123]⟩ : ByteArray).size = 1 := rfl
  refine (line3 W0 pb l ⟨#[112, 97, 114, 116, 105, 116, 105, 111, 110]⟩ x.name ⟨#[123]⟩ V0 hP0 (by omega)).mono ?_
  rintro e w1 ⟨rfl, hP1, ho1⟩
  have o1 : Oth pb w w1 := o0.trans ho1
  have h1 : w1.heap[w.heap.size]? = some (.cells #[.string x.name, .int .i64 x.period, .int .i64 x.duration, .int .i64 x.action, .slice ra x.regs.length rcap] 51 (0, 0)) := ho1.blk h0 hnb (by decide)
  have hl1 : (l ++ (joinL [⟨#[112, 97, 114, 116, 105, 116, 105, 111, 110]⟩, x.name, ⟨#[123]⟩] ++ [10])).length ≤ 900100 := by rw [List.length_append, List.length_append, q1]; simp; omega
  clear ho1 o0 h0 hb0 hP0
  have HL1 : Hid (l ++ (joinL [⟨#[112, 97, 114, 116, 105, 116, 105, 111, 110]⟩, x.name, ⟨#[123]⟩] ++ [10]) = l ++ (joinL [⟨#[112, 97, 114, 116, 105, 116, 105, 111, 110]⟩, x.name, ⟨#[123]⟩] ++ [10])) := rfl
  revert HL1
  generalize hL1 : l ++ (joinL [⟨#[112, 97, 114, 116, 105, 116, 105, 111, 110]⟩, x.name, ⟨#[123]⟩] ++ [10]) = l1 at *
  intro _
  have HL1 : Hid _ := hL1
  clear hL1 q1 z1 z2
  have y1 : w1.cell? ⟨w.heap.size, 1, none⟩ = some (.int .i64 x.period) := by rw [cell_of_blk h1]; rfl
  go_wp2_with fail
  refine (itoa_any x.period w1 ⟨hp.1, by omega⟩ (ht.below hP1.1)).mono ?_
  rintro e w2 ⟨rfl, hb2⟩
  clear y1
  go_wp2_with fail
  have q2 := len2 ⟨#[112, 101, 114, 105, 111, 100]⟩ (ba (decF x.period))
  have z1 : (⟨#[112, 101, 114, 105, 111, 100]⟩ : ByteArray).size = 6 := rfl
  refine (stmt2 W0 pb l1 [32, 32] ⟨#[112, 101, 114, 105, 111, 100]⟩ (ba (decF x.period)) w2 (hP1.below hb2) (by simp only [List.length_cons, List.length_nil]; omega)).mono ?_
  rintro e w3 ⟨rfl, hP3, ho3⟩
  have o3 : Oth pb w w3 := (o1.trans (Oth.below hb2)).trans ho3
  have h3 : w3.heap[w.heap.size]? = some (.cells #[.string x.name, .int .i64 x.period, .int .i64 x.duration, .int .i64 x.action, .slice ra x.regs.length rcap] 51 (0, 0)) := ho3.blk (keepL h1 hb2) hnb (by decide)
  have hl3 : (l1 ++ ([32, 32] ++ joinL [⟨#[112, 101, 114, 105, 111, 100]⟩, ba (decF x.period)] ++ [59] ++ [10])).length ≤ 900200 := by simp only [List.length_append, q2, List.length_cons, List.length_nil]; omega
  clear ho3 o1 h1 hb2 hP1 q2 z1 hl1
  generalize hL3 : l1 ++ ([32, 32] ++ joinL [⟨#[112, 101, 114, 105, 111, 100]⟩, ba (decF x.period)] ++ [59] ++ [10]) = l3 at *
  have HL3 : Hid _ := hL3
  clear hL3
  have y2 : w3.cell? ⟨w.heap.size, 2, none⟩ = some (.int .i64 x.duration) := by rw [cell_of_blk h3]; rfl
  go_wp2_with fail
  refine (itoa_any x.duration w3 ⟨hd.1, by omega⟩ (ht.below hP3.1)).mono ?_
  rintro e w4 ⟨rfl, hb4⟩
  clear y2
  go_wp2_with fail
  have q2 := len2 ⟨#[100, 117, 114, 97, 116, 105, 111, 110]⟩ (ba (decF x.duration))
  have z1 : (⟨#[100, 117, 114, 97, 116, 105, 111, 110]⟩ : ByteArray).size = 8 := rfl
  refine (stmt2 W0 pb l3 [32, 32] ⟨#[100, 117, 114, 97, 116, 105, 111, 110]⟩ (ba (decF x.duration)) w4 (hP3.below hb4) (by simp only [List.length_cons, List.length_nil]; omega)).mono ?_
  rintro e w5 ⟨rfl, hP5, ho5⟩
  have o5 : Oth pb w w5 := (o3.trans (Oth.below hb4)).trans ho5
  have h5 : w5.heap[w.heap.size]? = some (.cells #[.string x.name, .int .i64 x.period, .int .i64 x.duration, .int .i64 x.action, .slice ra x.regs.length rcap] 51 (0, 0)) := ho5.blk (keepL h3 hb4) hnb (by decide)
  have hl5 : (l3 ++ ([32, 32] ++ joinL [⟨#[100, 117, 114, 97, 116, 105, 111, 110]⟩, ba (decF x.duration)] ++ [59] ++ [10])).length ≤ 900300 := by simp only [List.length_append, q2, List.length_cons, List.length_nil]; omega
  clear ho5 o3 h3 hb4 hP3 q2 z1 hl3
  generalize hL5 : l3 ++ ([32, 32] ++ joinL [⟨#[100, 117, 114, 97, 116, 105, 111, 110]⟩, ba (decF x.duration)] ++ [59] ++ [10]) = l5 at *
  have HL5 : Hid _ := hL5
  clear hL5
  have y3 : w5.cell? ⟨w.heap.size, 3, none⟩ = some (.int .i64 x.action) := by rw [cell_of_blk h5]; rfl
  go_wp2_with fail
  have HS : ∀ w' : World, w'.heap[w.heap.size]? = some (.cells #[.string x.name, .int .i64 x.period, .int .i64 x.duration, .int .i64 x.action, .slice ra x.regs.length rcap] 51 (0, 0)) → (w'.cell? ⟨w.heap.size, 3, none⟩ = some (.int .i64 x.action) ∧ w'.heap[w.heap.size]? = some (.cells #[.string x.name, .int .i64 x.period, .int .i64 x.duration, .int .i64 x.action, .slice ra x.regs.length rcap] 51 (0, 0))) := fun w' hh => ⟨by rw [cell_of_blk hh]; rfl, hh⟩
  have q2 := len2 ⟨#[102, 97, 117, 108, 116]⟩ (wordF actL x.action)
  have z1 : (⟨#[102, 97, 117, 108, 116]⟩ : ByteArray).size = 5 := rfl
  have hlen6 : l5.length + [(32 : UInt8), 32].length + (⟨#[102, 97, 117, 108, 116]⟩ : ByteArray).size + (wordF actL x.action).size + 20 ≤ 1000000 := by simp only [List.length_cons, List.length_nil]; omega
  have hP : PS W0 pb l5 w5.drew := ⟨below_drewN hP5.1 1, hP5.2⟩
  have hB : w5.drew.heap[w.heap.size]? = _ := h5
  have HOT : Oth pb w w5.drew := o5
  go_region_held3 (fun w' => w'.cell? ⟨w.heap.size, 3, none⟩ = some (.int .i64 x.action) ∧ w'.heap[w.heap.size]? = some (.cells #[.string x.name, .int .i64 x.period, .int .i64 x.duration, .int .i64 x.action, .slice ra x.regs.length rcap] 51 (0, 0))) (first | exact HS _ hB | exact HS _ (keepL hB (below_new _ _))) ((first
    | (go_at_call 44; refine (actions_c _).mono ?_; rintro e w2 ⟨v, rfl, hv, hb2⟩; have hP := hP.below hb2; have HOT := HOT.trans (Oth.below hb2); have hB := keepL hB hb2)
    | (go_at_call 43; refine (wordFor_any actL v _ _ (by exact hv) (by decide)).mono ?_; rintro e w2 ⟨rfl, hb2⟩; have hP := hP.below hb2; have HOT := HOT.trans (Oth.below hb2); have hB := keepL hB hb2)
    | (go_at_call 25; refine (stmt2 W0 pb l5 [32, 32] ⟨#[102, 97, 117, 108, 116]⟩ (wordF actL x.action) w2 hP hlen6).mono ?_; rintro e w6 ⟨rfl, hP, ho6⟩; have HOT := HOT.trans ho6; have hB := ho6.blk hB hnb (by decide))))
  have hl7 : (l5 ++ ([32, 32] ++ joinL [⟨#[102, 97, 117, 108, 116]⟩, wordF actL x.action] ++ [59] ++ [10])).length ≤ 900400 := by simp only [List.length_append, q2, List.length_cons, List.length_nil]; omega
  generalize hL7 : l5 ++ ([32, 32] ++ joinL [⟨#[102, 97, 117, 108, 116]⟩, wordF actL x.action] ++ [59] ++ [10]) = l7 at *
  have HL7 : Hid (l7 = l ++ partS x) := by
    show _ = _
    rw [← hL7, ← HL5.out, ← HL3.out, ← HL1.out]
    unfold partS
    simp only [List.append_assoc]
  clear hL7 HL5 HL3 HL1 HS q2 z1 hlen6 y3 hP5 h5 o5 hl5 hb2
  have y4 : w6.cell? ⟨w.heap.size, 4, none⟩ = some (.slice ra x.regs.length rcap) := by rw [cell_of_blk hB]; rfl
  go_wp2_with fail
  clear y4
  go_loopw [33] (fun i wr => ∃ (k : Nat), i = .int .i64 k ∧ k ≤ x.regs.length ∧ PS W0 pb (l7 ++ (x.regs.take k).flatMap regS) wr ∧ (l7 ++ (x.regs.take k).flatMap regS).length ≤ 900400 + 60 * k ∧ Oth pb w wr) (fun i _ => x.regs.length - (intOf i).toNat)
  case atStart => exact ⟨0, rfl, by omega, by simpa using hP, by simpa using hl7, HOT⟩
  case round =>
    obtain ⟨k, rfl, hk, hPk, hlk, ok⟩ := hrel
    clear hP HOT
    by_cases hlt : k < x.regs.length
    · have hlt' : (k : Int) < (x.regs.length : Int) := by omega
      have hk0 : (0 : Int) ≤ (k : Int) := by omega
      obtain ⟨ra', rcap', hrr, hrc⟩ := RegsV.below HRV.out hPk.1
      cases hrr
      obtain ⟨rb, ro, rfl, d0, d1, d2⟩ := hrc k hlt
      clear hrc
      have hbd := HRO.out x.regs[k] (List.getElem_mem _)
      unfold regB at hbd
      simp only [decide_eq_true_eq] at hbd
      have HFS : Hid _ := flat_step x.regs regS k hlt
      generalize hlr : l7 ++ (x.regs.take k).flatMap regS = lk at *
      have HLR : Hid _ := hlr
      clear hlr
      generalize x.regs[k] = r at *
      have hb1 := below_new wr (.cells #[.int .i64 r.page, .int .i64 r.pages, .int .i64 r.rights] 48)
      have h1 := heap_new wr (.cells #[.int .i64 r.page, .int .i64 r.pages, .int .i64 r.rights] 48)
      have hnr : wr.heap.size ≠ pb := by have := hPk.lt; omega
      go_wp2_with fail
      have hP1 := hPk.below hb1
      have o1 : Oth pb w _ := ok.trans (Oth.below hb1)
      clear d0 d1 d2 hPk ok hb1
      generalize wr.alloc (.cells #[.int .i64 r.page, .int .i64 r.pages, .int .i64 r.rights] 48) = V1 at *
      generalize wr.heap.size = nb at *
      have HS : ∀ w' : World, w'.heap[nb]? = some (.cells #[.int .i64 r.page, .int .i64 r.pages, .int .i64 r.rights] 48 (0, 0)) → ((w'.cell? ⟨nb, 0, none⟩ = some (.int .i64 r.page) ∧ w'.cell? ⟨nb, 1, none⟩ = some (.int .i64 r.pages) ∧ w'.cell? ⟨nb, 2, none⟩ = some (.int .i64 r.rights)) ∧ w'.heap[nb]? = some (.cells #[.int .i64 r.page, .int .i64 r.pages, .int .i64 r.rights] 48 (0, 0))) := fun w' hh => ⟨⟨by rw [cell_of_blk hh]; rfl, by rw [cell_of_blk hh]; rfl, by rw [cell_of_blk hh]; rfl⟩, hh⟩
      have dr1 := dec_sz r.page
      have dr2 := dec_sz r.pages
      have dr3 := wordR_len r.rights
      have z1 : (⟨#[109, 101, 109, 111, 114, 121]⟩ : ByteArray).size = 6 := rfl
      have q4 := len4 ⟨#[109, 101, 109, 111, 114, 121]⟩ (ba (decF r.page)) (ba (decF r.pages)) (wordF rightL r.rights)
      have hlen8 : lk.length + [(32 : UInt8), 32].length + (⟨#[109, 101, 109, 111, 114, 121]⟩ : ByteArray).size + (ba (decF r.page)).size + (ba (decF r.pages)).size + (wordF rightL r.rights).size + 20 ≤ 1000000 := by simp only [List.length_cons, List.length_nil]; omega
      have hP : PS W0 pb lk V1.drew := ⟨below_drewN hP1.1 1, hP1.2⟩
      have hB : V1.drew.heap[nb]? = _ := h1
      have HOT : Oth pb w V1.drew := o1
      go_region_held3 (fun w' => (w'.cell? ⟨nb, 0, none⟩ = some (.int .i64 r.page) ∧ w'.cell? ⟨nb, 1, none⟩ = some (.int .i64 r.pages) ∧ w'.cell? ⟨nb, 2, none⟩ = some (.int .i64 r.rights)) ∧ w'.heap[nb]? = some (.cells #[.int .i64 r.page, .int .i64 r.pages, .int .i64 r.rights] 48 (0, 0))) (first | exact HS _ hB | exact HS _ (keepL hB (below_new _ _))) ((first
        | (go_at_call 26; refine (itoa_any _ _ ⟨by omega, by omega⟩ (ht.below hP.1)).mono ?_; rintro e w2 ⟨rfl, hb2⟩; have hP := hP.below hb2; have HOT := HOT.trans (Oth.below hb2); have hB := keepL hB hb2)
        | (go_at_call 45; refine (rights_c _).mono ?_; rintro e w2 ⟨v, rfl, hv, hb2⟩; have hP := hP.below hb2; have HOT := HOT.trans (Oth.below hb2); have hB := keepL hB hb2)
        | (go_at_call 43; refine (wordFor_any rightL v _ _ (by exact hv) (by decide)).mono ?_; rintro e w2 ⟨rfl, hb2⟩; have hP := hP.below hb2; have HOT := HOT.trans (Oth.below hb2); have hB := keepL hB hb2)
        | (go_at_call 25; refine (stmt4 W0 pb lk [32, 32] ⟨#[109, 101, 109, 111, 114, 121]⟩ (ba (decF r.page)) (ba (decF r.pages)) (wordF rightL r.rights) w2 hP hlen8).mono ?_; rintro e w7 ⟨rfl, hP, ho7⟩; have HOT := HOT.trans ho7; have hB := ho7.blk hB hnr (by decide))))
      have HN : Hid (lk ++ ([32, 32] ++ joinL [⟨#[109, 101, 109, 111, 114, 121]⟩, ba (decF r.page), ba (decF r.pages), wordF rightL r.rights] ++ [59] ++ [10]) = l7 ++ (x.regs.take (k + 1)).flatMap regS) := by
        show _ = _
        rw [HFS.out, ← HLR.out, List.append_assoc]
        rfl
      have hPN := hP.eq HN.out
      have hlN : (l7 ++ (x.regs.take (k + 1)).flatMap regS).length ≤ 900400 + 60 * (k + 1) := by rw [← HN.out]; simp only [List.length_append, q4, List.length_cons, List.length_nil]; omega
      clear HS q4 z1 dr1 dr2 dr3 hlen8 HN HFS HLR
      go_wp2_with fail
      go_roundw
      case rel => exact ⟨k + 1, by go_num, by omega, hPN, hlN, HOT⟩
      case measure => simp [intOf]; omega
    · have hlt' : ¬ (k : Int) < (x.regs.length : Int) := by omega
      have hke : k = x.regs.length := by omega
      subst hke
      rw [List.take_length] at hPk hlk
      go_wp2_with fail
      have z1 : (⟨#[125]⟩ : ByteArray).size = 1 := rfl
      refine (line1 W0 pb _ ⟨#[125]⟩ wr hPk (by omega)).mono ?_
      rintro e w7 ⟨rfl, hP7, ho7⟩
      go_wp2_with fail
      go_end0
      refine ⟨rfl, hP7.eq ?_, ok.trans ho7⟩
      rw [HL7.out, List.append_assoc, List.append_assoc, ← List.append_assoc (partS x), HEQ.out]
end Go.Proofs.YteioennfpkoagaaDoor.C
