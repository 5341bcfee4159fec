import Derived.Test.YteioennfpkoagaaGreatDoorG15
import Derived.Lib.ConvBytes
import Derived.Lib.AtoiErrMem
import Derived.Lib.BufferWrite
import Derived.Lib.UnsafeStr
import Derived.LaidEql
import Derived.Test.YteioennfpkoagaaGreatDoorG07
namespace Go.Proofs.YteioennfpkoagaaGreatDoor
open Go.RowKit
attribute [local go_sem ↓] Go.wp_at_zero Go.wp_at_succ

theorem byte_at (s : ByteArray) (k : Nat) (h : k < s.size) : ((s.data.toList.getD k 0).toNat : Int) = (s[k].toNat : Int) := by
  have h' : k < s.data.toList.length := by simpa using h
  have e : s.data.toList.getD k 0 = s[k] := by
    rw [List.getD_eq_getElem?_getD, List.getElem?_eq_getElem h']; rfl
  rw [e]
theorem u8_in {x : Nat} (h : digitB (x : Int) = true) : ((x : Int) - 48) % 256 = (x : Int) - 48 ∧ 48 ≤ x ∧ x ≤ 57 := by
  simp [digitB] at h; omega
theorem u8_out {x : Nat} (hx : x < 256) (h : digitB (x : Int) = false) : 9 < ((x : Int) - 48) % 256 := by
  simp [digitB] at h; omega

set_option maxRecDepth 100000 in
set_option maxHeartbeats 400000 in
theorem atoiIn_any (s : ByteArray) (w : World) (h1 : 1 ≤ s.size) (hs : s.size ≤ 6) (hd : digitB s[0].toNat = true) :
    Calls Tryz.prog 253 #[.string s] w fun e w' => e = .returned (if digitsB s.data.toList = true then .tuple #[.int .i64 (valF s.data.toList), .nilIface] else .tuple #[.int .i64 0, .iface 343 (.int .i64 2)]) ∧ Below w.heap.size w w' := by
  have hb : 48 ≤ s[0].toNat ∧ s[0].toNat ≤ 57 := by simp [digitB] at hd; omega
  have q1 : decide ((0 : Int) < (s.size : Int)) = true := by simp; omega
  have q2 : decide ((s.size : Int) < 19) = true := by simp; omega
  have q3 : ((s[0].toNat : Int) == 45) = false := by simp; omega
  have q4 : ((s[0].toNat : Int) == 43) = false := by simp; omega
  have q5 : decide ((s.size : Int) < 1) = false := by simp; omega
  have hcv := Lib.run_convert_string_bytes (P := Tryz.prog) w 9 63 5 s (u := .string) Tryz.underlying9 Tryz.underlying63 Tryz.underlying5
  have hB : Hid (∀ j (hj : j < s.size), (Lib.bytesWorld w 5 s).cell? ⟨w.heap.size, j, none⟩ = some (.int .u8 (s[j].toNat : Int))) := fun j hj => by rw [Lib.bytesWorld_cell w 5 s j hj, byte_at s j hj]
  have hbl := Lib.bytesWorld_below w 5 s
  have HBL : Hid _ := hbl
  clear hbl
  generalize hout : (if digitsB s.data.toList = true then Value.tuple #[.int .i64 (valF s.data.toList), .nilIface] else .tuple #[.int .i64 0, .iface 343 (.int .i64 2)]) = out
  have HO : Hid _ := hout
  clear hout
  generalize Lib.bytesWorld w 5 s = W1 at *
  clear hd
  go_enter Tryz.func253, Tryz.ntmps253
  go_wp2
  clear hcv
  go_loop [6, 49] (fun n i => ∃ k : Nat, k ≤ s.size ∧ i = .int .i64 k ∧ n = .int .i64 (valF (s.data.toList.take k)) ∧ Hid (∀ j (hj : j < s.size), j < k → digitB s[j].toNat = true)) (fun _ i => s.size - (intOf i).toNat)
  case atStart => exact ⟨0, by omega, rfl, rfl, fun j _ hj => by omega⟩
  case round =>
    obtain ⟨k, hk, rfl, rfl, HK⟩ := hrel
    have hvb := valF_bd s k hk (by omega)
    by_cases hlt : k < s.size
    · have hc := hB.out k hlt
      have hx : s[k].toNat < 256 := UInt8.toNat_lt _
      have HS : Hid _ := valF_step s k hlt
      generalize valF (s.data.toList.take k) = vv at *
      cases hdg : digitB s[k].toNat
      · have hw := u8_out hx hdg
        have HDN : Hid (digitsB s.data.toList = false) := digits_not hlt hdg
        clear hdg
        go_wp2
        go_ret2
        rw [← HO.out, HDN.out]
        exact ⟨rfl, HBL.out⟩
      · obtain ⟨hw, hx1, hx2⟩ := u8_in hdg
        have HDG : Hid _ := hdg
        clear hdg
        go_wp2
        go_round
        case rel => exact ⟨k + 1, by omega, by go_num, by rw [HS.out]; congr 1; omega, fun j hj hjk => by
          rcases Nat.lt_succ_iff_lt_or_eq.1 hjk with h | h
          · exact HK.out j hj h
          · subst h; exact HDG.out⟩
        case measure => simp [intOf]; omega
    · have hkk : k = s.size := by omega
      subst hkk
      have HDA : Hid (digitsB s.data.toList = true) := digits_all fun j hj => HK.out j hj hj
      have htk : s.data.toList.take s.size = s.data.toList := List.take_of_length_le (by simp)
      rw [htk] at hvb ⊢
      clear htk
      generalize hv : valF s.data.toList = vv at *
      have HV : Hid _ := hv
      clear hv
      go_wp2
      go_ret2
      rw [← HO.out, HDA.out]
      exact ⟨rfl, HBL.out⟩

section
variable {P : Program} (w : World)
theorem eql_in_iface_int (d : Nat) {ti tn : TypeId} {ms : Array (String × TypeId)} {i : TypeInfo} {k : IntKind} (a b : Int)
    (hi : P.underlying ti = some (.interface ms)) (hn : P.underlying tn = some (.int k)) (hinfo : P.info? tn = some i) (hcomp : i.comparable = true) :
    (Op.equalIn (d + 2) ti (.iface tn (.int k a)) (.iface tn (.int k b))).run P w = .ok (a == b) w := by
  simp [Op.equalIn, run_underlying hi, run_underlying hn, typeInfo, hinfo, hcomp]
theorem eql_iface_int {ti tn : TypeId} {ms : Array (String × TypeId)} {i : TypeInfo} {k : IntKind} (a b : Int)
    (hi : P.underlying ti = some (.interface ms)) (hn : P.underlying tn = some (.int k)) (hinfo : P.info? tn = some i) (hcomp : i.comparable = true) :
    (binOp .eql ti (.iface tn (.int k a)) (.iface tn (.int k b))).run P w = .ok (.bool (a == b)) w := by
  simp only [binOp]
  simp [Op.equal, Op.maxDepth, eql_in_iface_int w 9998 a b hi hn hinfo hcomp]
end
theorem infoByte : (Tryz.prog.info? 5).map (fun i => (i.zero, i.size, i.bytes)) = some (some (.int .u8 0), 1, 1) := by kernel_rfl
theorem infoScError : (Tryz.prog.info? 343).map (·.comparable) = some true := by kernel_rfl

set_option maxRecDepth 100000 in
set_option maxHeartbeats 1000000 in
theorem clone_any (s : ByteArray) (w : World) (hs : s.size ≤ 8192) :
    Calls Tryz.prog 255 #[.string s] w fun e w' => e = .returned (.string s) ∧ Below w.heap.size w w' := by
  by_cases h0 : s.size = 0
  · have he : s = ⟨#[]⟩ := by
      apply ByteArray.ext; apply Array.eq_empty_of_size_eq_zero; exact h0
    subst he
    go_enter Tryz.func255, Tryz.ntmps255
    go_wp2
    go_ret
    exact ⟨rfl, Below.refl _ _⟩
  · obtain ⟨i0, hi, hz0, hz1, hz2⟩ := info_parts infoByte
    have hinfo : (Tryz.prog.info? 5).map (·.size) = some 1 := by rw [hi]; simp [hz1]
    have hco : Tryz.prog.cellsOf 5 = 1 := by simp [Program.cellsOf, hi, hz1]
    -- the new row of bytes, as 'make' lays it
    obtain ⟨cs, hcs⟩ : ∃ cs, cs = madeCells (Value.int .u8 0).cells (((s.size : Nat) : Int).toNat * i0.size) := ⟨_, rfl⟩
    have hcsz : cs.size = s.size := by rw [hcs, size_madeCells, hz1]; simp
    have mk := run_make (P := Tryz.prog) w 63 5 i0 (.int .u8 0) Tryz.underlying63 hi hz0 .i64 .i64 (s.size : Int) (s.size : Int) (by omega) (by omega) (by rw [hz2]; omega) (by omega)
    rw [← hcs] at mk
    have mk' : (Instr.makeSlice 63 (.int .i64 (s.size : Int)) (.int .i64 (s.size : Int))).run Tryz.prog w = .ok (.slice (some ⟨w.heap.size, 0, none⟩) s.size s.size) (w.alloc (.cells cs 5)) := by simpa using mk
    clear mk hcs
    have hnew : (w.alloc (.cells cs 5)).heap[w.heap.size]? = some (.cells cs 5 (0, 0)) := heap_alloc_new w _
    -- the bytes are copied into it
    have cp := Lib.run_copy_row_string (P := Tryz.prog) (w.alloc (.cells cs 5)) 63 9 3 5 w.heap.size 0 s.size s.size s cs 5 Tryz.underlying63 hinfo hnew (Nat.le_refl _) (by omega)
    obtain ⟨ds, hds⟩ : ∃ ds, ds = (cs.toList.take 0 ++ Lib.byteCells s.data.toList ++ cs.toList.drop (0 + s.size)).toArray := ⟨_, rfl⟩
    rw [← hds] at cp
    have hdl : ds.toList = Lib.byteCells s.data.toList := by
      rw [hds, List.toList_toArray, List.take_zero, List.nil_append, List.drop_of_length_le (by rw [Array.length_toList]; omega), List.append_nil]
    have hdsz : ds.size = s.size := by rw [← Array.length_toList, hdl, Lib.byteCells_length, ← Lib.size_eq]
    clear hds
    have hrow : ((w.alloc (.cells cs 5)).setRow w.heap.size ds).heap[w.heap.size]? = some (.cells ds 5 (0, 0)) := setRow_heap _ _ cs _ 5 (0, 0) hnew
    -- and read out as a string
    have hne : s.data.toList ≠ [] := fun e => h0 (by rw [Lib.size_eq, e]; rfl)
    have us := Lib.run_unsafeString_row (P := Tryz.prog) ((w.alloc (.cells cs 5)).setRow w.heap.size ds) 202 3 9 5 Tryz.underlying202 hco w.heap.size ds.size (by unfold World.shape?; rw [hrow]) s.data.toList hne (by rw [← Lib.size_eq]; omega) (by rw [← Lib.size_eq]; omega)
      (fun j x hx => Lib.cells_of_row hrow ds.size j _ (by rw [List.take_of_length_le (by rw [Array.length_toList]; exact Nat.le_refl _), hdl]; simp [Lib.byteCells, hx]))
    rw [← Lib.size_eq] at us
    go_enter Tryz.func255, Tryz.ntmps255
    go_wp2
    go_ret
    have b1 : Below w.heap.size w (w.alloc (.cells cs 5)) := (Below.refl _ w).alloc (Nat.le_refl _) _
    have b2 : Below w.heap.size (w.alloc (.cells cs 5)) ((w.alloc (.cells cs 5)).setRow w.heap.size ds) := ⟨rfl, rfl, rfl, by simp, fun k hk => setRow_other _ _ _ _ (by omega)⟩
    exact ⟨rfl, Lib.below_freeze (b1.trans b2) (p := ⟨w.heap.size, 0, none⟩) (Nat.le_refl _) _⟩

set_option maxRecDepth 100000 in
set_option maxHeartbeats 400000 in
theorem stringsClone_any (s : ByteArray) (w : World) (hs : s.size ≤ 8192) :
    Calls Tryz.prog 241 #[.string s] w fun e w' => e = .returned (.string s) ∧ Below w.heap.size w w' := by
  go_enter Tryz.func241, Tryz.ntmps241
  go_wp2_with fail
  refine (clone_any s _ hs).mono ?_
  rintro e w2 ⟨rfl, hb⟩
  go_wp2_with fail
  go_ret
  exact ⟨rfl, hb⟩

set_option maxRecDepth 100000 in
set_option maxHeartbeats 400000 in
theorem syntaxError_any (f s : ByteArray) (te : Nat) (pe : Value) (w : World) (hs : s.size ≤ 8192) (hv : w.cell? ⟨7, 0, none⟩ = some (.iface te pe)) :
    Calls Tryz.prog 268 #[.string f, .string s] w fun e w' => (∃ N, e = .returned (.pointer (some ⟨N, 0, none⟩))) ∧ Below w.heap.size w w' := by
  have hlt : 7 < w.heap.size := World.block_lt_of_cell? w ⟨7, 0, none⟩ hv
  go_enter Tryz.func268, Tryz.ntmps268
  go_wp2_with fail
  go_region_held3 (fun w' => w'.cell? ⟨7, 0, none⟩ = some (.iface te pe)) (first | go_keep | (rw [hb2.cell (by exact hlt)]; assumption)) ((first | (go_at_call 255; refine (clone_any s _ hs).mono ?_; rintro e w2 ⟨rfl, hb2⟩)))
  go_wp2_with fail
  go_ret
  exact ⟨⟨_, rfl⟩, (below_drew hb2).alloc hb2.size _⟩

set_option maxRecDepth 100000 in
set_option maxHeartbeats 400000 in
theorem toError_any (f s : ByteArray) (x y : Int) (te : Nat) (pe : Value) (w : World) (hs : s.size ≤ 8192) (hv : w.cell? ⟨7, 0, none⟩ = some (.iface te pe)) :
    Calls Tryz.prog 254 #[.string f, .string s, .int .i64 x, .int .i64 y, .iface 343 (.int .i64 2)] w fun e w' => (∃ N, e = .returned (.iface 346 (.pointer (some ⟨N, 0, none⟩)))) ∧ Below w.heap.size w w' := by
  obtain ⟨i, hi, hcmp⟩ := Option.map_eq_some_iff.1 infoScError
  have heq := eql_iface_int (P := Tryz.prog) w 2 2 Tryz.underlying96 Tryz.underlying343 hi hcmp
  go_enter Tryz.func254, Tryz.ntmps254
  go_wp2_with fail
  refine (syntaxError_any f s te pe _ hs hv).mono ?_
  rintro e w2 ⟨⟨N, rfl⟩, hb⟩
  go_wp2_with fail
  go_ret
  exact ⟨⟨N, rfl⟩, hb⟩

set_option maxRecDepth 100000 in
set_option maxHeartbeats 400000 in
theorem atoi_any (s : ByteArray) (te : Nat) (pe : Value) (w : World) (h1 : 1 ≤ s.size) (hs : s.size ≤ 6) (hd : digitB s[0].toNat = true) (hv : w.cell? ⟨7, 0, none⟩ = some (.iface te pe)) :
    Calls Tryz.prog 239 #[.string s] w fun e w' => (digitsB s.data.toList = true ∧ e = .returned (.tuple #[.int .i64 (valF s.data.toList), .nilIface]) ∨ digitsB s.data.toList = false ∧ ∃ N, e = .returned (.tuple #[.int .i64 0, .iface 346 (.pointer (some ⟨N, 0, none⟩))])) ∧ Below w.heap.size w w' := by
  have hlt : 7 < w.heap.size := World.block_lt_of_cell? w ⟨7, 0, none⟩ hv
  cases hdd : digitsB s.data.toList
  · go_enter Tryz.func239, Tryz.ntmps239
    go_wp2_with fail
    refine (atoiIn_any s _ h1 hs hd).mono ?_
    rintro e w2 ⟨rfl, hb⟩
    rw [hdd]
    simp only [Bool.false_eq_true, if_false]
    go_wp2_with fail
    refine (toError_any _ s 0 0 te pe _ (by omega) ((hb.cell (by exact hlt)).trans hv)).mono ?_
    rintro e w3 ⟨⟨N, rfl⟩, hb3⟩
    go_wp2_with fail
    go_ret2
    exact ⟨.inr ⟨by simp, N, rfl⟩, hb.trans (hb3.mono hb.size)⟩
  · go_enter Tryz.func239, Tryz.ntmps239
    go_wp2_with fail
    refine (atoiIn_any s _ h1 hs hd).mono ?_
    rintro e w2 ⟨rfl, hb⟩
    rw [hdd]
    simp only [if_true]
    go_wp2_with fail
    go_ret2
    exact ⟨.inl ⟨by simp, rfl⟩, hb⟩
end Go.Proofs.YteioennfpkoagaaGreatDoor
namespace Go.Proofs.YteioennfpkoagaaGreatDoor
open Go.RowKit
attribute [local go_sem ↓] Go.wp_at_zero Go.wp_at_succ

/- an error variable's value: a pointer to its text -/
def errV (a : Addr) : Value := .iface 359 (.pointer (some a))
/- The package's variables, as they are laid: those that the program reads. B: all that is spoken of lies below. -/
structure GL (w : World) (B : Nat) (ew en eu es ex : Addr) : Prop where
  size : B ≤ w.heap.size
  cW : w.cell? ⟨0, 0, none⟩ = some (errV ew)
  cN : w.cell? ⟨1, 0, none⟩ = some (errV en)
  cU : w.cell? ⟨2, 0, none⟩ = some (errV eu)
  cS : w.cell? ⟨4, 0, none⟩ = some (errV es)
  cX : w.cell? ⟨7, 0, none⟩ = some (errV ex)
  cT : w.cell? ⟨3, 0, none⟩ = some (.iface 287 (.agg #[.pointer (some ⟨11, 96, none⟩)]))
  bW : ∃ c t, w.heap[ew.block]? = some (.cells c t (0, 0))
  bN : ∃ c t, w.heap[en.block]? = some (.cells c t (0, 0))
  bU : ∃ c t, w.heap[eu.block]? = some (.cells c t (0, 0))
  bS : ∃ c t, w.heap[es.block]? = some (.cells c t (0, 0))
  ne : ew ≠ en ∧ ew ≠ eu ∧ ew ≠ es ∧ en ≠ eu ∧ en ≠ es ∧ eu ≠ es
  lt : ew.block < B ∧ en.block < B ∧ eu.block < B ∧ es.block < B ∧ 11 ≤ B
theorem GL.below {w w' : World} {B : Nat} {ew en eu es ex : Addr} (h : GL w B ew en eu es ex) (hb : Below B w w') : GL w' B ew en eu es ex := by
  have h1 := h.lt
  have cc : ∀ k, k < B → w'.cell? ⟨k, 0, none⟩ = w.cell? ⟨k, 0, none⟩ := fun k hk => hb.cell hk
  obtain ⟨c1, t1, e1⟩ := h.bW
  obtain ⟨c2, t2, e2⟩ := h.bN
  obtain ⟨c3, t3, e3⟩ := h.bU
  obtain ⟨c4, t4, e4⟩ := h.bS
  exact ⟨Nat.le_trans h.size hb.size, by rw [cc _ (by omega)]; exact h.cW, by rw [cc _ (by omega)]; exact h.cN, by rw [cc _ (by omega)]; exact h.cU, by rw [cc _ (by omega)]; exact h.cS, by rw [cc _ (by omega)]; exact h.cX, by rw [cc _ (by omega)]; exact h.cT,
    ⟨c1, t1, by rw [hb.block _ (by omega)]; exact e1⟩, ⟨c2, t2, by rw [hb.block _ (by omega)]; exact e2⟩, ⟨c3, t3, by rw [hb.block _ (by omega)]; exact e3⟩, ⟨c4, t4, by rw [hb.block _ (by omega)]; exact e4⟩, h.ne, h.lt⟩
theorem GL.grown {w w' : World} {B : Nat} {ew en eu es ex : Addr} {row : Option Nat} (h : GL w B ew en eu es ex) (hg : w.grownBy w' row) (hr : ∀ k, row = some k → B ≤ k) : GL w' B ew en eu es ex :=
  h.below ((Below.refl B w).grown hg h.size hr)

set_option maxRecDepth 100000 in
set_option maxHeartbeats 400000 in
theorem checkWord_any (s : ByteArray) (w : World) {B : Nat} {ew en eu es ex : Addr} (hg : GL w B ew en eu es ex) (hs : s.size ≤ 8192) :
    Calls Tryz.prog 197 #[.string s] w fun e w' => e = .returned (if 16 < s.size then errV ew else .nilIface) ∧ w' = w := by
  have c := hg.cW
  unfold errV at *
  by_cases h : 16 < s.size
  · have h1 : decide ((16 : Int) < (s.size : Int)) = true := by simp; omega
    rw [if_pos h]
    go_enter Tryz.func197, Tryz.ntmps197
    go_wp2_with fail
    go_ret
    exact ⟨rfl, rfl⟩
  · have h1 : decide ((16 : Int) < (s.size : Int)) = false := by simp; omega
    rw [if_neg h]
    go_enter Tryz.func197, Tryz.ntmps197
    go_wp2_with fail
    go_ret
    exact ⟨rfl, rfl⟩

theorem one_zero (s : ByteArray) : (s.toList == [48]) = decide (s.data.toList = [48]) := by
  rw [ByteArray.toList_eq, Bool.eq_iff_iff]; simp

set_option maxRecDepth 100000 in
set_option maxHeartbeats 1000000 in
theorem numberValue_any (s : ByteArray) (w : World) {B : Nat} {ew en eu es ex : Addr} (hg : GL w B ew en eu es ex) (h1 : 1 ≤ s.size) (hs : s.size ≤ 8192) (hd : digitB s[0].toNat = true) :
    Calls Tryz.prog 199 #[.string s] w fun e w' => e = .returned (if looksF 2 s.data.toList = 0 then .tuple #[.int .i64 (valF s.data.toList), .nilIface] else .tuple #[.int .i64 0, errV en]) ∧ Below w.heap.size w w' := by
  have c := hg.cN
  have cx := hg.cX
  have hlt : 1 < w.heap.size := World.block_lt_of_cell? w ⟨1, 0, none⟩ c
  unfold errV at *
  by_cases h6 : 6 < s.size
  · have q1 : decide ((6 : Int) < (s.size : Int)) = true := by simp; omega
    rw [looks_two (s := s) (.inl h6), if_neg (by decide)]
    go_enter Tryz.func199, Tryz.ntmps199
    go_wp2_with fail
    go_region
    go_wp2_with fail
    go_ret2
    exact ⟨rfl, (Below.refl _ _).drew⟩
  · have q1 : decide ((6 : Int) < (s.size : Int)) = false := by simp; omega
    have hz : 0 < s.size := by omega
    have hh : s.data.toList.head?.map UInt8.toNat = some s[0].toNat := by have := head_at (s := s) (k := 0) hz; simpa using this
    by_cases h0 : s[0].toNat = 48
    · have q2 : ((s[0].toNat : Int) == 48) = true := by simp; omega
      by_cases hone : s.data.toList = [48]
      · have q3 : (s.toList == [48]) = true := by rw [one_zero]; simp [hone]
        have hl0 : looksF 2 s.data.toList = 0 := by rw [hone]; decide
        have hdg : digitsB s.data.toList = true := by rw [hone]; decide
        rw [hl0, if_pos rfl]
        have HDG : Hid _ := hdg
        clear hone hl0 hdg hh
        go_enter Tryz.func199, Tryz.ntmps199
        go_wp2_with fail
        refine (atoi_any s _ _ _ h1 (by omega) hd cx).mono ?_
        rintro e w2 ⟨hcase, hb⟩
        rcases hcase with ⟨_, rfl⟩ | ⟨hf, _⟩
        · go_wp2_with fail
          go_ret2
          exact ⟨rfl, hb⟩
        · exact absurd HDG.out (by rw [hf]; simp)
      · have q3 : (s.toList == [48]) = false := by rw [one_zero]; simp [hone]
        have hgt : 1 < s.size := by
          rcases Nat.lt_or_ge 1 s.size with h | h
          · exact h
          · exfalso; apply hone
            have e1 := drop_cons s 0 hz
            simp only [List.drop_zero] at e1
            have e2 : s.data.toList.drop (0 + 1) = [] := List.drop_eq_nil_of_le (by simp; omega)
            rw [e2] at e1
            rw [e1]
            have : s[0] = 48 := by apply UInt8.toNat_inj.1; exact h0
            rw [this]
        rw [looks_two (s := s) (.inr ⟨hgt, by rw [hh, h0]⟩), if_neg (by decide)]
        clear hone hh
        go_enter Tryz.func199, Tryz.ntmps199
        go_wp2_with fail
        go_region
        go_wp2_with fail
        go_ret2
        exact ⟨rfl, (Below.refl _ _).drew⟩
    · have q2 : ((s[0].toNat : Int) == 48) = false := by simp; omega
      have hN : ¬ (6 < s.size ∨ (1 < s.size ∧ s.data.toList.head?.map UInt8.toNat = some 48)) := by
        intro h; rcases h with h | ⟨_, h⟩
        · exact h6 h
        · rw [hh] at h; simp at h; exact h0 h
      have HN : Hid _ := hN
      clear hh hN
      generalize hout : (if looksF 2 s.data.toList = 0 then Value.tuple #[.int .i64 (valF s.data.toList), .nilIface] else .tuple #[.int .i64 0, .iface 359 (.pointer (some en))]) = out
      have HO : Hid _ := hout
      clear hout
      go_enter Tryz.func199, Tryz.ntmps199
      go_wp2_with fail
      refine (atoi_any s _ _ _ h1 (by omega) hd cx).mono ?_
      rintro e w2 ⟨hcase, hb⟩
      rcases hcase with ⟨hdg, rfl⟩ | ⟨hdg, n1, rfl⟩
      · go_wp2_with fail
        go_ret2
        rw [← HO.out, looks_good HN.out hdg, if_pos rfl]
        exact ⟨rfl, hb⟩
      · have c2 : w2.cell? ⟨1, 0, none⟩ = some (.iface 359 (.pointer (some en))) := (hb.cell (by exact hlt)).trans c
        go_wp2_with fail
        go_region
        go_wp2_with fail
        go_ret2
        rw [← HO.out, looks_bad HN.out hdg, if_neg (by decide)]
        exact ⟨rfl, hb.drew⟩
end Go.Proofs.YteioennfpkoagaaGreatDoor
