import Derived.Test.YteioennfpkoagaaGreatDoorB02
import Derived.Test.YteioennfpkoagaaGreatDoorB01
import Derived.Laws.BitsAllLaws
namespace Go.Proofs.YteioennfpkoagaaGreatDoor.C
open Go.RowKit K
attribute [local go_sem ↓] Go.wp_at_zero Go.wp_at_succ

/- bytes in memory -/
def byC (l : List UInt8) : List Value := l.map fun b => Value.int .u8 b.toNat
def BytesV (w : World) (v : Value) (l : List UInt8) : Prop :=
  ∃ va cap, v = .slice va l.length cap ∧ ∀ i (h : i < l.length), ∃ b off, va = some ⟨b, off, none⟩ ∧ w.cell? ⟨b, off + i, none⟩ = some (.int .u8 l[i].toNat)
theorem x32 (c d : BitVec 32) : bits .xor .u32 (c.toNat : Int) (d.toNat : Int) = ((c ^^^ d).toNat : Int) := by
  rw [u32_xor_nat _ _ c.isLt d.isLt, BitVec.toNat_xor]
theorem xby (c : BitVec 32) (y : UInt8) : bits .xor .u32 (c.toNat : Int) (y.toNat : Int) = ((c ^^^ y.toBitVec.setWidth 32).toNat : Int) := by
  rw [← x32]
  have : (y.toBitVec.setWidth 32).toNat = y.toNat := by
    have := y.toNat_lt
    rw [BitVec.toNat_setWidth]
    show y.toNat % 2 ^ 32 = y.toNat
    omega
  rw [this]
theorem xstep (z : BitVec 32) : bits .xor .u32 ((z.toNat : Int) / 2) (bits .and .u32 (z.toNat : Int) 1 * 3988292384 % 4294967296) = ((cstep z).toNat : Int) := by
  have h1 : bits .and .u32 (z.toNat : Int) 1 = ((z &&& 1#32).toNat : Int) := by
    have := u32_and_nat z.toNat 1 z.isLt (by decide)
    rw [show ((1 : Nat) : Int) = 1 from rfl] at this
    rw [this, BitVec.toNat_and]
    rfl
  have h2 : ((z &&& 1#32).toNat : Int) * 3988292384 % 4294967296 = (((z &&& 1#32) * 0xEDB88320#32).toNat : Int) := by
    rw [BitVec.toNat_mul]
    simp
  have h3 : (z.toNat : Int) / (2 : Int) = ((z >>> 1).toNat : Int) := by
    rw [BitVec.toNat_ushiftRight, Nat.shiftRight_eq_div_pow]
    simp
  rw [h1, h2, h3, x32]
  rfl
theorem xnot (c : BitVec 32) : bits .xor .u32 IntKind.u32.max (c.toNat : Int) = ((~~~c).toNat : Int) := by
  have h : IntKind.u32.max = ((BitVec.allOnes 32).toNat : Int) := by decide
  rw [h, x32]
  rw [BitVec.allOnes_xor]
set_option maxRecDepth 100000 in
set_option maxHeartbeats 1000000 in
theorem checksum_any (v : Value) (l : List UInt8) (hl : l.length ≤ 1048576) (w : World) (hv : BytesV w v l) :
    Calls Tryz.prog 183 #[v] w fun e w' => e = .returned (.int .u32 (sumL l).toNat) ∧ w' = w := by
  obtain ⟨va, cap, rfl, hc⟩ := hv
  go_enter Tryz.func183, Tryz.ntmps183
  go_wp2_with fail
  go_loopw [3, 8] (fun s i wr => ∃ k : Nat, i = .int .i64 k ∧ k ≤ l.length ∧ s = .int .u32 (cfold (l.take k) (~~~0#32)).toNat ∧ wr = w) (fun _ i _ => l.length - (intOf i).toNat)
  case atStart => exact ⟨0, rfl, by omega, rfl, rfl⟩
  case round =>
    obtain ⟨k, rfl, hk, rfl, hw⟩ := hrel
    have hw2 := hw.symm
    clear hw
    subst hw2
    by_cases hlt : k < l.length
    · have hlt' : (k : Int) < (l.length : Int) := by omega
      obtain ⟨b, off, rfl, hcell⟩ := hc k hlt
      have hb := (l[k]).toNat_lt
      obtain ⟨c, hcc⟩ : ∃ c, cfold (l.take k) (~~~0#32) = c := ⟨_, rfl⟩
      have HC : Hid (cfold (l.take k) (~~~0#32) = c) := hcc
      rw [hcc]
      obtain ⟨y, hy⟩ : ∃ y, l[k] = y := ⟨_, rfl⟩
      have HY : Hid (l[k] = y) := hy
      rw [hy] at hcell hb
      clear hcc hy
      go_wp2_with fail
      rw [xby c y]
      obtain ⟨d, hd⟩ : ∃ d, c ^^^ y.toBitVec.setWidth 32 = d := ⟨_, rfl⟩
      have HD : Hid (c ^^^ y.toBitVec.setWidth 32 = d) := hd
      rw [hd]
      clear hd
      go_loopw [3, 16] (fun s j wr => ∃ n : Nat, j = .int .i64 n ∧ n ≤ 8 ∧ s = .int .u32 (csteps n d).toNat ∧ wr = w) (fun _ j _ => 8 - (intOf j).toNat)
      case atStart => exact ⟨0, rfl, by omega, rfl, rfl⟩
      case round =>
        obtain ⟨n, rfl, hn, rfl, hw⟩ := hrel
        have hw2 := hw.symm
        clear hw
        subst hw2
        by_cases hlt8 : n < 8
        · have hlt8' : (n : Int) < 8 := by omega
          obtain ⟨z, hz⟩ : ∃ z, csteps n d = z := ⟨_, rfl⟩
          rw [hz]
          have HZ : Hid (csteps n d = z) := hz
          clear hz
          go_wp2_with fail
          refine ⟨⟨n + 1, by go_num, by omega, ?_, trivial⟩, by simp [intOf]; omega⟩
          rw [xstep, csteps_succ, HZ.out]
        · have hlt8' : ¬ (n : Int) < 8 := by omega
          have h8 : n = 8 := by omega
          have H8 : Hid (n = 8) := h8
          clear h8
          go_wp2_with fail
          refine ⟨⟨k + 1, by go_num, by omega, ?_, trivial⟩, by simp [intOf]; omega⟩
          rw [H8.out, ← HD.out, ← HC.out, ← HY.out, List.take_succ_eq_append_getElem hlt]
          unfold cfold
          rw [List.foldl_append]
          rfl
    · have hlt' : ¬ (k : Int) < (l.length : Int) := by omega
      have hke : k = l.length := by omega
      have HK : Hid (k = l.length) := hke
      clear hke
      obtain ⟨c, hcc⟩ : ∃ c, cfold (l.take k) (~~~0#32) = c := ⟨_, rfl⟩
      have HC : Hid (cfold (l.take k) (~~~0#32) = c) := hcc
      rw [hcc]
      clear hcc
      go_wp2_with fail
      rw [xnot c]
      go_ret
      refine ⟨?_, rfl⟩
      have := HC.out
      rw [HK.out, List.take_length] at this
      rw [← this]
      rfl
end Go.Proofs.YteioennfpkoagaaGreatDoor.C
