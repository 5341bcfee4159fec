import Derived.Test.YteioennfpkoagaaGreatDoorUB01
import Derived.Test.YteioennfpkoagaaGreatDoorB08
import Derived.Test.YteioennfpkoagaaGreatDoorUA01
import Derived.Test.YteioennfpkoagaaGreatDoorUB02
import Derived.Test.YteioennfpkoagaaGreatDoorB28
namespace Go.Proofs.YteioennfpkoagaaGreatDoor.C
open Go.RowKit K
attribute [local go_sem ↓] Go.wp_at_zero Go.wp_at_succ

theorem loop_len (s : ByteArray) : ∀ (n i : Nat) (r : List UInt8), n = s.size - i → (ByteArray.toList.loop s i r).length = r.length + (s.size - i)
  | 0, i, r, h => by
    unfold ByteArray.toList.loop
    rw [if_neg (by omega), List.length_reverse]
    omega
  | n + 1, i, r, h => by
    unfold ByteArray.toList.loop
    rw [if_pos (by omega), loop_len s n (i + 1) _ (by omega)]
    simp only [List.length_cons]; omega
theorem not_empty {s : ByteArray} (h : 8 ≤ s.size) : s.toList.isEmpty = false := by
  have e := loop_len s (s.size - 0) 0 [] rfl
  have h1 : s.toList.length = s.size := by unfold ByteArray.toList; rw [e]; simp
  cases hs : s.toList with
  | nil => rw [hs] at h1; simp at h1; omega
  | cons => rfl
set_option maxRecDepth 100000 in
set_option maxHeartbeats 4000000 in
theorem compiled_any (f : Int) (ps : List PartD) (cs : List ChanD) (pv cv : Value) (w : World) (hp : PartsV w pv ps) (hc : ChansV w cv cs) (hn : ps.length ≤ 2199023255552) (hm : cs.length ≤ 2513169434844) (hr : ∀ i (hi : i < ps.length), ps[i].regs.length ≤ 5864062014635) :
    Calls Tryz.prog 46 #[.agg #[.int .i64 f, pv, cv]] w fun e w' => Below w.heap.size w w' ∧ ((¬ checkF ⟨f, ps, cs⟩ = 0 ∧ e = .returned (.tuple #[.string ⟨#[]⟩, .bool true])) ∨ (checkF ⟨f, ps, cs⟩ = 0 ∧ e = .returned (.tuple #[.string (ba (imgF ⟨f, ps, cs⟩)), .bool true]))) := by
  have HP : Hid (PartsV w pv ps) := hp
  have HCV : Hid (ChansV w cv cs) := hc
  have HR : Hid _ := hr
  clear hr
  obtain ⟨va, cap, rfl, hx⟩ := hp
  clear hx
  obtain ⟨ca, ck, rfl, hx⟩ := hc
  clear hx
  have b0 := newB w (.cells #[.int .i64 f, .slice va ps.length cap, .slice ca cs.length ck] 34)
  have h0 := heap_new w (.cells #[.int .i64 f, .slice va ps.length cap, .slice ca cs.length ck] 34)
  go_enter Tryz.func46, Tryz.ntmps46
  have bl := newB (w.alloc (.cells #[.int .i64 f, .slice va ps.length cap, .slice ca cs.length ck] 34)) (.cells #[.slice none 0 0, .slice none 0 0, .slice none 0 0, .slice none 0 0, .int .i64 0, .slice none 0 0, .slice none 0 0] 186)
  have hl := heap_new (w.alloc (.cells #[.int .i64 f, .slice va ps.length cap, .slice ca cs.length ck] 34)) (.cells #[.slice none 0 0, .slice none 0 0, .slice none 0 0, .slice none 0 0, .int .i64 0, .slice none 0 0, .slice none 0 0] 186)
  have hsz : (w.alloc (.cells #[.int .i64 f, .slice va ps.length cap, .slice ca cs.length ck] 34)).heap.size = w.heap.size + 1 := by simp
  have hlm := keepN h0 bl
  have y0 : ((w.alloc (.cells #[.int .i64 f, .slice va ps.length cap, .slice ca cs.length ck] 34)).alloc (.cells #[.slice none 0 0, .slice none 0 0, .slice none 0 0, .slice none 0 0, .int .i64 0, .slice none 0 0, .slice none 0 0] 186)).cell? ⟨w.heap.size, 0, none⟩ = some (.int .i64 f) := by rw [cell_of_blk hlm]; rfl
  have y1 : ((w.alloc (.cells #[.int .i64 f, .slice va ps.length cap, .slice ca cs.length ck] 34)).alloc (.cells #[.slice none 0 0, .slice none 0 0, .slice none 0 0, .slice none 0 0, .int .i64 0, .slice none 0 0, .slice none 0 0] 186)).cell? ⟨w.heap.size, 1, none⟩ = some (.slice va ps.length cap) := by rw [cell_of_blk hlm]; rfl
  have y2 : ((w.alloc (.cells #[.int .i64 f, .slice va ps.length cap, .slice ca cs.length ck] 34)).alloc (.cells #[.slice none 0 0, .slice none 0 0, .slice none 0 0, .slice none 0 0, .int .i64 0, .slice none 0 0, .slice none 0 0] 186)).cell? ⟨w.heap.size, 2, none⟩ = some (.slice ca cs.length ck) := by rw [cell_of_blk hlm]; rfl
  clear hlm
  go_wp2_with fail
  clear y0 y1 y2
  generalize (w.alloc (.cells #[.int .i64 f, .slice va ps.length cap, .slice ca cs.length ck] 34)) = W0 at *
  rw [← hsz]
  clear hsz
  refine (lent_any W0 _ W0.heap.size f _ _ ps cs bl (PartsV.below HP.out b0) (ChansV.below HCV.out b0) (Nat.le_refl _) hl hn hm HR.out).mono ?_
  rintro e w5 ⟨pv5, cv5, rfl, hp5, hc5, ⟨hpc5, hcc5⟩, pb, hb, rgv, ctv, G, hL⟩
  clear bl hl
  have b5 := hL.low
  have HL : Hid _ := hL
  go_wp2_with fail
  refine (compile_anyF f ps cs _ _ w5 hp5 hpc5 hc5 hcc5 hn hm HR.out).mono ?_
  intro e w6 hor
  clear hL hp5 hc5 hpc5 hcc5
  obtain ⟨s, d, HSD, rfl, b6⟩ : ∃ s d, Hid ((¬ checkF ⟨f, ps, cs⟩ = 0 ∧ s = ⟨#[]⟩ ∧ d = checkF ⟨f, ps, cs⟩) ∨ (checkF ⟨f, ps, cs⟩ = 0 ∧ s = ba (imgF ⟨f, ps, cs⟩) ∧ d = 0)) ∧ e = .returned (.tuple #[.string s, .int .i64 d]) ∧ Below w5.heap.size w5 w6 := by
    rcases hor with ⟨h1, rfl, h3⟩ | ⟨h1, h3, rfl⟩
    · exact ⟨_, _, .inl ⟨h1, rfl, rfl⟩, rfl, h3⟩
    · exact ⟨_, _, .inr ⟨h1, rfl, rfl⟩, rfl, h3⟩
  clear hor
  have b06 := b5.trans (b6.mono b5.size)
  have h6 := keepN h0 b06
  have y0 : w6.cell? ⟨w.heap.size, 0, none⟩ = some (.int .i64 f) := by rw [cell_of_blk h6]; rfl
  have y1 : w6.cell? ⟨w.heap.size, 1, none⟩ = some (.slice va ps.length cap) := by rw [cell_of_blk h6]; rfl
  have y2 : w6.cell? ⟨w.heap.size, 2, none⟩ = some (.slice ca cs.length ck) := by rw [cell_of_blk h6]; rfl
  have bw6 := b0.trans (b06.mono b0.size)
  go_wp2_with fail
  refine (check_any f ps cs _ _ w6 (PartsV.below HP.out bw6) (ChansV.below HCV.out bw6) (by omega)).mono ?_
  rintro e w7 ⟨rfl, b7⟩
  have h7 := keepN h6 b7
  have b67 := b6.trans (b7.mono b6.size)
  clear y0 y1 y2 h6
  go_wp2_with fail
  refine (kept_anyF W0 w7 W0.heap.size pb hb f _ _ ps cs rgv ctv G (HL.out.below b67) (PartsV.below HP.out b0) (ChansV.below HCV.out b0) hn hm HR.out).mono ?_
  rintro e w8 ⟨rfl, b8⟩
  have h8 := keepN h7 b8
  have z0 : w8.cell? ⟨w.heap.size, 0, none⟩ = some (.int .i64 f) := by rw [cell_of_blk h8]; rfl
  have z1 : w8.cell? ⟨w.heap.size, 1, none⟩ = some (.slice va ps.length cap) := by rw [cell_of_blk h8]; rfl
  have z2 : w8.cell? ⟨w.heap.size, 2, none⟩ = some (.slice ca cs.length ck) := by rw [cell_of_blk h8]; rfl
  have HB8 : Hid (Below w.heap.size w w8) := by
    have := bw6.trans (b7.mono bw6.size)
    exact this.trans (b8.mono this.size)
  clear b0 h0 b5 b6 b06 bw6 b7 h7 b67 b8 h8 HL
  by_cases hz : checkF ⟨f, ps, cs⟩ = 0
  · have hsd : s = ba (imgF ⟨f, ps, cs⟩) ∧ d = 0 := by
      rcases HSD.out with ⟨h1, _⟩ | ⟨_, h2, h3⟩
      · exact absurd hz h1
      · exact ⟨h2, h3⟩
    obtain ⟨hs1, rfl⟩ := hsd
    have hlen := imgF_len hz
    have hco := check_ok hz
    have h2 : f ≤ 240 := hco.2.1
    have h21 : 1 ≤ f := hco.1
    have h3 : ps.length ≤ 8 := hco.2.2.1
    have h4 : cs.length ≤ 8 := hco.2.2.2.1
    have hs2 : 8 ≤ s.size ∧ (s.size : Int) ≤ 8 + f + 14 * ps.length + 5 * cs.length := by
      rw [hs1]
      simp only [ba, ByteArray.size, List.size_toArray]
      have e : ((⟨f, ps, cs⟩ : ManD).frame.toNat : Int) = f := by show (f.toNat : Int) = f; omega
      have h5 := hlen.1
      have h6 : (⟨f, ps, cs⟩ : ManD).parts.length = ps.length := rfl
      have h7 : (⟨f, ps, cs⟩ : ManD).chans.length = cs.length := rfl
      rw [h6, h7] at h5
      omega
    have HS1 : Hid (s = ba (imgF ⟨f, ps, cs⟩)) := hs1
    have HZ : Hid (checkF ⟨f, ps, cs⟩ = 0) := hz
    have hsn := not_empty hs2.1
    rw [hz]
    clear hs1 hz HSD hlen hco
    obtain ⟨hs3, hs4⟩ := hs2
    have w1 : IntKind.i64.wrap (64 + f) = 64 + f := wrap_small _ (by omega) (by omega)
    have w2 : IntKind.i64.wrap (64 * (ps.length : Int)) = 64 * (ps.length : Int) := wrap_small _ (by omega) (by omega)
    have w3 : IntKind.i64.wrap (64 + f + 64 * (ps.length : Int)) = 64 + f + 64 * (ps.length : Int) := wrap_small _ (by omega) (by omega)
    have w4 : IntKind.i64.wrap (64 * (cs.length : Int)) = 64 * (cs.length : Int) := wrap_small _ (by omega) (by omega)
    have w5 : IntKind.i64.wrap (64 + f + 64 * (ps.length : Int) + 64 * (cs.length : Int)) = 64 + f + 64 * (ps.length : Int) + 64 * (cs.length : Int) := wrap_small _ (by omega) (by omega)
    have hle : (s.size : Int) ≤ 64 + f + 64 * (ps.length : Int) + 64 * (cs.length : Int) := by omega
    go_wp2_with fail
    go_quiet (fail)
    go_wp2_with fail
    go_ret2
    exact ⟨below_drewN HB8.out _, .inr ⟨HZ.out, by simp [HS1.out]⟩⟩
  · have hsd : s = ⟨#[]⟩ ∧ d = checkF ⟨f, ps, cs⟩ := by
      rcases HSD.out with ⟨_, h2, h3⟩ | ⟨h1, _⟩
      · exact ⟨h2, h3⟩
      · exact absurd h1 hz
    obtain ⟨rfl, rfl⟩ := hsd
    have HN : Hid (¬ checkF ⟨f, ps, cs⟩ = 0) := hz
    have h1b : (checkF ⟨f, ps, cs⟩ == 0) = false := by simpa using hz
    clear HSD hz
    generalize hzz : checkF ⟨f, ps, cs⟩ = z at *
    have HZZ : Hid (checkF ⟨f, ps, cs⟩ = z) := hzz
    clear hzz
    go_wp2_with fail
    go_ret2
    exact ⟨HB8.out, .inl ⟨by rw [HZZ.out]; exact HN.out, rfl⟩⟩
end Go.Proofs.YteioennfpkoagaaGreatDoor.C
