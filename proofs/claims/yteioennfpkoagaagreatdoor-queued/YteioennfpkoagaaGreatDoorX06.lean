import Derived.Test.YteioennfpkoagaaGreatDoorM04
import Derived.Deep.DeepCutAuto
import Derived.OwnWalk
namespace Go.Proofs.YteioennfpkoagaaGreatDoor.C
open Go.RowKit K
attribute [local go_sem ↓] Go.wp_at_zero Go.wp_at_succ

theorem infoStrQ : (Tryz.prog.info? 9).map (fun i => (i.zero, i.size, i.bytes)) = some (some (.string ⟨#[]⟩), 1, 16) := by kernel_rfl
set_option maxRecDepth 100000 in
set_option maxHeartbeats 8000000 in
theorem queued_law (I : KerI) (w : World) (htb : TB w) (u : Value) (xs : List ByteArray) (hx : StrsV w u xs) (hn : xs.length ≤ 8796093021952) (dp ah : Int) (hd : inI dp) (ha : inI ah) :
    Calls Tryz.prog 11 #[u, .int .i64 dp, .int .i64 ah] w fun e w' => e = .returned (.bool true) ∧ Below w.heap.size w w' := by
  have HTB : Hid (TB w) := htb
  clear htb
  have HX : Hid (StrsV w u xs) := hx
  obtain ⟨_, xa, xc, rfl, _⟩ := hx
  obtain ⟨d, hdp, hd8⟩ : ∃ d : Nat, pickF dp 8 = d ∧ d < 8 := by
    have := pickF_lt (c := dp) (n := 8) (by omega)
    exact ⟨(pickF dp 8).toNat, by omega, by omega⟩
  obtain ⟨h, hah, hh8⟩ : ∃ h : Nat, pickF ah 8 = h ∧ h < 8 := by
    have := pickF_lt (c := ah) (n := 8) (by omega)
    exact ⟨(pickF ah 8).toNat, by omega, by omega⟩
  have HDP : Hid (pickF dp 8 = d) := hdp
  have HAH : Hid (pickF ah 8 = h) := hah
  clear hdp hah
  go_enter Tryz.func11, Tryz.ntmps11
  go_wp2_with fail
  refine Calls.mono (pick_any dp 8 hd (by omega) _) ?_
  rintro e V ⟨rfl, rfl⟩
  rw [HDP.out]
  have hd0 : (d : Int) < 8 := by omega
  go_wp2_with fail
  have HBEG : Hid (Calls Tryz.prog 25 #[.agg #[.int .i64 4, .slice (some ⟨w.heap.size, 0, none⟩) 2 2, .slice (some ⟨w.heap.size + 1, 0, none⟩) 1 1]] (qW w d) fun e w' => ∃ a qv W1, e = .returned (.tuple #[.pointer (some a), qv]) ∧ Begun I (qW w d) ⟨4, qPs, qCs d⟩ a qv W1 w') := kbegin_any I (qW w d) (HTB.out.below (qW_see w d).2.2.2) 4 qPs (qCs d) _ _ (qW_see w d).1 (qW_see w d).2.1 (qW_see w d).2.2.1 ⟨_, _, _, rfl, Nat.le_refl _⟩ (q_ok hd8) (by simp [qPs]) q_fst
  have HB0 : Hid (Below w.heap.size w (qW w d)) := (qW_see w d).2.2.2
  refine Calls.mono HBEG.out ?_
  clear HBEG
  generalize qW w d = W0 at *
  rintro e w2 ⟨a, qv, W1, rfl, hbg⟩
  have HBG : Hid (Begun I W0 ⟨4, qPs, qCs d⟩ a qv W1 w2) := hbg
  have epl : (planF ⟨4, qPs, qCs d⟩).length = 4 := by rw [planF_len]; rfl
  obtain ⟨qa, qc, hqv, _⟩ := hbg.plan
  rw [epl] at hqv
  subst hqv
  clear hbg epl
  have HBW : Hid (Below w.heap.size w W1) := HB0.out.trans (HBG.out.pre.mono HB0.out.size)
  have HXW : Hid (StrsV W1 (.slice xa xs.length xc) xs) := HX.out.below HBW.out
  have HPL : Hid (∀ t V, Below W1.heap.size W1 V → ∃ qb qo, qa = some ⟨qb, qo, none⟩ ∧ V.cell? ⟨qb, qo + t % 4, none⟩ = some (.int .i64 ((t % 2 : Nat) : Int))) := fun t V hV => by
    have hpv := HBG.out.plan.below hV
    obtain ⟨qa', qc', eqv, hqc⟩ := hpv
    rw [planF_len] at eqv
    obtain ⟨rfl, rfl⟩ : qa = qa' ∧ qc = qc' := by cases eqv; exact ⟨rfl, rfl⟩
    have h4 : t % 4 < 4 := Nat.mod_lt _ (by decide)
    obtain ⟨qb, qo, rfl, hq⟩ := hqc (t % 4) (by rw [planF_len]; exact h4)
    rw [planF_at (D := ⟨4, qPs, qCs d⟩) (t := t % 4) h4] at hq
    exact ⟨qb, qo, rfl, by rw [hq]; exact congrArg (fun x => some (Value.int .i64 x)) (q_tick t)⟩
  clear HX
  go_wp2_with fail
  go_loopw [10, 11, 12, 13] (fun sv av gv tv wr => ∃ (t at' g : Nat) (ss : List ByteArray) (S : KS), av = .int .i64 at' ∧ gv = .int .i64 g ∧ tv = .int .i64 t ∧ t ≤ 4 * (xs.length + 4) + h ∧ Hid (QP xs.length h t at' ss.length g) ∧ Hid (QK t (ss.drop g) S) ∧ Hid (QM I W1 a d sv ss S wr)) (fun _ _ _ tv _ => 4 * (xs.length + 4) + h - (intOf tv).toNat)
  case atStart => exact ⟨0, 0, 0, [], bootK, rfl, rfl, rfl, by omega, QP.start _ _, QK.boot, ⟨(HBG.out.kat).lists, World.ownsRow_nil _ _ _ _⟩⟩
  case round =>
    obtain ⟨t, at', g, ss, S, rfl, rfl, rfl, ht, HP, HK, HM⟩ := hrel
    obtain ⟨sa, sc, rfl⟩ := own_shapeT HM.out.own
    obtain ⟨qb, qo, rfl, hq⟩ := HPL.out t wr HM.out.bel
    obtain ⟨md, hmd⟩ : ∃ md, t % 4 = md := ⟨_, rfl⟩
    have hmod : (t : Int) % 4 = (md : Int) := by omega
    have hm0 : (0 : Int) ≤ (md : Int) := by omega
    have hm1 : (md : Int) < 4 := by omega
    have hgl := HP.out.gle
    have hsl := HP.out.sle
    have hal := HP.out.ale
    have hsm : SmallK bigK S := HK.out.small (by unfold bigK; omega)
    have HSM : Hid (SmallK bigK S) := hsm
    have HPQ : Hid (∀ V, Below W1.heap.size W1 V → V.cell? ⟨qb, qo + md, none⟩ = some (.int .i64 ((t % 2 : Nat) : Int))) := fun V hV => by
      obtain ⟨qb', qo', e, hq'⟩ := HPL.out t V hV
      cases e
      rw [← hmd]
      exact hq'
    rw [hmd] at hq
    clear hmd hsm HPL
    go_wp2_with fail
    refine Calls.mono (pick_any ah 8 ha (by omega) _) ?_
    rintro e V ⟨rfl, hV⟩
    have hV2 := hV.symm
    clear hV
    subst hV2
    rw [HAH.out]
    by_cases hlt : t < 4 * (xs.length + 4) + h
    · have hlt' : (t : Int) < 4 * ((xs.length : Int) + 4) + (h : Int) := by omega
      by_cases hev : t % 2 = 0
      · have HPE : Hid (∀ V, Below W1.heap.size W1 V → V.cell? ⟨qb, qo + md, none⟩ = some (.int .i64 0)) := fun V hV => by
          have := HPQ.out V hV
          rw [hev] at this
          exact this
        have hq0 := HPE.out wr HM.out.bel
        clear hq HPQ
        by_cases hat : at' < xs.length
        · have hat' : (at' : Int) < (xs.length : Int) := by omega
          obtain ⟨hxs, xa', xc', exv, hxc⟩ := HXW.out.below HM.out.bel
          obtain ⟨rfl, rfl⟩ : xa = xa' ∧ xc = xc' := by cases exv; exact ⟨rfl, rfl⟩
          obtain ⟨xb, xo, rfl, hxt⟩ := hxc at' hat
          have hxz := hxs _ (List.getElem_mem hat)
          obtain ⟨s, hs⟩ : ∃ s, xs[at'] = s := ⟨_, rfl⟩
          rw [hs] at hxt hxz
          clear hs hxc hxs exv
          have hdl : (ss.drop g).length = ss.length - g := List.length_drop
          have HDL : Hid ((ss.drop g).length = ss.length - g) := hdl
          clear hdl
          go_wp2_with fail
          by_cases hlg : 32 < s.size
          · have hlg' : (32 : Int) < (s.size : Int) := by omega
            refine Calls.mono (KAtL.send HM.out.kat HSM.out (p := 0) (c := 0) (s := s) (by unfold inR; omega) (by unfold inR; omega) hxz) ?_
            rw [HK.out.long hev hlg]
            rintro e w3 ⟨rfl, hk3, hs3⟩
            have HM3 : Hid (QM I W1 a d (.slice sa ss.length sc) ss S w3) := HM.out.call hk3 hs3
            have hq3 := HPE.out w3 HM3.out.bel
            clear hk3 hs3
            by_cases hfl : d < ss.length - g
            · have hfl' : (d : Int) < (ss.length : Int) - (g : Int) := by omega
              go_wp2_with fail
              refine Calls.mono (pick_any dp 8 hd (by omega) _) ?_
              rintro e V ⟨rfl, hV⟩
              have hV2 := hV.symm
              clear hV
              subst hV2
              rw [HDP.out]
              go_wp2_with fail
              refine Calls.mono (KAtL.tick HM3.out.kat HSM.out) ?_
              rintro e w5 ⟨rfl, hk5, hs5⟩
              have HM5 : Hid _ := HM3.out.call hk5 hs5
              clear hk5 hs5
              go_wp2_with fail
              exact ⟨⟨t + 1, at' + 1, g, ss, tickK S, by first | rfl | go_num, by first | rfl | go_num, by go_num, by omega, HP.out.long hev hat, HK.out.tick, HM5⟩, by simp [intOf]; omega⟩
            · have hfl' : ¬ (d : Int) < (ss.length : Int) - (g : Int) := by omega
              go_wp2_with fail
              refine Calls.mono (pick_any dp 8 hd (by omega) _) ?_
              rintro e V ⟨rfl, hV⟩
              have hV2 := hV.symm
              clear hV
              subst hV2
              rw [HDP.out]
              go_wp2_with fail
              refine Calls.mono (KAtL.tick HM3.out.kat HSM.out) ?_
              rintro e w5 ⟨rfl, hk5, hs5⟩
              have HM5 : Hid _ := HM3.out.call hk5 hs5
              clear hk5 hs5
              go_wp2_with fail
              exact ⟨⟨t + 1, at' + 1, g, ss, tickK S, by first | rfl | go_num, by first | rfl | go_num, by go_num, by omega, HP.out.long hev hat, HK.out.tick, HM5⟩, by simp [intOf]; omega⟩
          · have hlg' : ¬ (32 : Int) < (s.size : Int) := by omega
            by_cases hfl : d < ss.length - g
            · have hfl' : (d : Int) < (ss.length : Int) - (g : Int) := by omega
              refine Calls.mono (KAtL.send HM.out.kat HSM.out (p := 0) (c := 0) (s := s) (by unfold inR; omega) (by unfold inR; omega) hxz) ?_
              rw [HK.out.full hev hlg (by rw [HDL.out]; exact hfl)]
              rintro e w3 ⟨rfl, hk3, hs3⟩
              have HM3 : Hid (QM I W1 a d (.slice sa ss.length sc) ss S w3) := HM.out.call hk3 hs3
              have hq3 := HPE.out w3 HM3.out.bel
              clear hk3 hs3
              go_wp2_with fail
              refine Calls.mono (pick_any dp 8 hd (by omega) _) ?_
              rintro e V ⟨rfl, hV⟩
              have hV2 := hV.symm
              clear hV
              subst hV2
              rw [HDP.out]
              go_wp2_with fail
              refine Calls.mono (KAtL.tick HM3.out.kat HSM.out) ?_
              rintro e w5 ⟨rfl, hk5, hs5⟩
              have HM5 : Hid _ := HM3.out.call hk5 hs5
              clear hk5 hs5
              go_wp2_with fail
              exact ⟨⟨t + 1, at', g, ss, tickK S, by first | rfl | go_num, by first | rfl | go_num, by go_num, by omega, HP.out.full hev (by omega), HK.out.tick, HM5⟩, by simp [intOf]; omega⟩
            · have hfl' : ¬ (d : Int) < (ss.length : Int) - (g : Int) := by omega
              obtain ⟨T, hT, hKT⟩ := HK.out.sent (d := d) hev hlg (by rw [HDL.out]; exact hfl)
              have HKT : Hid (QK t (ss.drop g ++ [s]) T) := hKT
              clear hKT
              refine Calls.mono (KAtL.send HM.out.kat HSM.out (p := 0) (c := 0) (s := s) (by unfold inR; omega) (by unfold inR; omega) hxz) ?_
              rw [hT]
              rintro e w3 ⟨rfl, hk3, hs3⟩
              have HM3 : Hid (QM I W1 a d (.slice sa ss.length sc) ss T w3) := HM.out.call hk3 hs3
              have hq3 := HPE.out w3 HM3.out.bel
              clear hk3 hs3
              clear hT
              obtain ⟨j0, hj0, hy0, hy1, hy2⟩ := parts_of infoStrQ
              have hown3 := HM3.out.own
              go_wp2_with fail
              refine Calls.mono (pick_any dp 8 hd (by omega) _) ?_
              rintro e V ⟨rfl, hV⟩
              have hV2 := hV.symm
              clear hV
              subst hV2
              rw [HDP.out]
              go_wp2_with (first
                | (at_builtin; refine wpList_append_lies _ rfl _ _ _ rfl W1.heap.size 9 j0 _ 1 16 Tryz.underlying22 hj0 hy0 hy1 hy2 rfl (by omega) (.slice sa ss.length sc) ss.length (ss.map .string) rfl (hown3.alloc _) ⟨w3.heap.size, 0, none⟩ 1 1 [.string s] rfl rfl (World.news_of_block (cs := #[.string s]) (t := 9) (fr := (0, 0)) (heap_new w3 _)) (by simp [Value.oneCell']) (by omega) (by unfold maxLen; omega) (by omega) (by have := HM3.out.bel.size; simp; omega) (w3.heap.size + 1) (by simp) ?_; intro g9 c9 V9 hown9 hgrow9 hat9 hlt9
                   have hM9 := HM3.out.app hgrow9 hown9 hat9 hlt9
                   have HM9 : Hid _ := hM9
                   have hq9 := HPE.out V9 HM9.out.bel
                   clear hM9 hown9 hgrow9 hat9 hlt9)
                | fail)
              have hse : (ss ++ [s]).length = ss.length + 1 := by simp
              have hsd : (ss ++ [s]).drop g = ss.drop g ++ [s] := List.drop_append_of_le_length hgl
              refine Calls.mono (KAtL.tick HM9.out.kat (HKT.out.small (by unfold bigK; omega))) ?_
              rintro e w5 ⟨rfl, hk5, hs5⟩
              have HM5 : Hid _ := HM9.out.call hk5 hs5
              clear hk5 hs5
              go_wp2_with fail
              have HP9 : Hid (QP xs.length h (t + 1) (at' + 1) (ss ++ [s]).length g) := by rw [hse]; exact HP.out.push hev hat
              have HK9 : Hid (QK (t + 1) ((ss ++ [s]).drop g) (tickK T)) := by rw [hsd]; exact HKT.out.tick
              exact ⟨⟨t + 1, at' + 1, g, ss ++ [s], tickK T, by first | rfl | go_num, by first | rfl | go_num, by go_num, by omega, HP9, HK9, HM5⟩, by simp [intOf]; omega⟩
        · have hat' : ¬ (at' : Int) < (xs.length : Int) := by omega
          go_wp2_with fail
          refine Calls.mono (KAtL.tick HM.out.kat HSM.out) ?_
          rintro e w5 ⟨rfl, hk5, hs5⟩
          have HM5 : Hid _ := HM.out.call hk5 hs5
          clear hk5 hs5
          go_wp2_with fail
          exact ⟨⟨t + 1, at', g, ss, tickK S, by first | rfl | go_num, by first | rfl | go_num, by go_num, by omega, HP.out.rest hev hat, HK.out.tick, HM5⟩, by simp [intOf]; omega⟩
      · have hod : t % 2 = 1 := by omega
        have hq1 : wr.cell? ⟨qb, qo + md, none⟩ = some (.int .i64 1) := by
          have := HPQ.out wr HM.out.bel
          rw [hod] at this
          exact this
        clear hq HPQ
        by_cases hwt : t < h
        · have hwt' : ¬ (h : Int) ≤ (t : Int) := by omega
          go_wp2_with fail
          refine Calls.mono (pick_any ah 8 ha (by omega) _) ?_
          rintro e V ⟨rfl, hV⟩
          have hV2 := hV.symm
          clear hV
          subst hV2
          rw [HAH.out]
          go_wp2_with fail
          refine Calls.mono (KAtL.tick HM.out.kat HSM.out) ?_
          rintro e w5 ⟨rfl, hk5, hs5⟩
          have HM5 : Hid _ := HM.out.call hk5 hs5
          clear hk5 hs5
          go_wp2_with fail
          exact ⟨⟨t + 1, at', g, ss, tickK S, by first | rfl | go_num, by first | rfl | go_num, by go_num, by omega, HP.out.wait hod hwt, HK.out.tick, HM5⟩, by simp [intOf]; omega⟩
        · have hwt' : (h : Int) ≤ (t : Int) := by omega
          go_wp2_with fail
          refine Calls.mono (pick_any ah 8 ha (by omega) _) ?_
          rintro e V ⟨rfl, hV⟩
          have hV2 := hV.symm
          clear hV
          subst hV2
          rw [HAH.out]
          go_wp2_with fail
          by_cases hgt : g < ss.length
          · have hgt' : (g : Int) < (ss.length : Int) := by omega
            have hdr : ss.drop g = ss[g] :: ss.drop (g + 1) := List.drop_eq_getElem_cons hgt
            have HKD : Hid (QK t (ss[g] :: ss.drop (g + 1)) S) := by have := HK.out; rwa [hdr] at this
            obtain ⟨T, hT, hKT⟩ := HKD.out.got (d := d) hod
            have HKT : Hid (QK t (ss.drop (g + 1)) T) := hKT
            clear hKT hdr HKD
            refine Calls.mono (KAtL.recv HM.out.kat HSM.out (p := 1) (c := 0) (by unfold inR; omega) (by unfold inR; omega)) ?_
            rw [hT]
            rintro e w3 ⟨rfl, hk3, hs3⟩
            have HM3 : Hid (QM I W1 a d (.slice sa ss.length sc) ss T w3) := HM.out.call hk3 hs3
            obtain ⟨sg, scp, esv, hsc⟩ := HM3.out.at hgt
            obtain ⟨rfl, rfl⟩ : sa = some ⟨sg, 0, none⟩ ∧ sc = scp := by cases esv; exact ⟨rfl, rfl⟩
            obtain ⟨s, hs⟩ : ∃ s, ss[g] = s := ⟨_, rfl⟩
            rw [hs] at hsc ⊢
            clear hk3 hs3 hT esv hs
            go_wp2_with fail
            refine Calls.mono (KAtL.tick HM3.out.kat (HKT.out.small (by unfold bigK; omega))) ?_
            rintro e w5 ⟨rfl, hk5, hs5⟩
            have HM5 : Hid _ := HM3.out.call hk5 hs5
            clear hk5 hs5
            go_wp2_with fail
            exact ⟨⟨t + 1, at', g + 1, ss, tickK T, by first | rfl | go_num, by first | rfl | go_num, by go_num, by omega, HP.out.take hod hgt, HKT.out.tick, HM5⟩, by simp [intOf]; omega⟩
          · have hgt' : ¬ (g : Int) < (ss.length : Int) := by omega
            have HKD : Hid (QK t [] S) := by have := HK.out; rwa [List.drop_eq_nil_of_le (by omega)] at this
            refine Calls.mono (KAtL.recv HM.out.kat HSM.out (p := 1) (c := 0) (by unfold inR; omega) (by unfold inR; omega)) ?_
            rw [HKD.out.none hod]
            rintro e w3 ⟨rfl, hk3, hs3⟩
            have HM3 : Hid (QM I W1 a d (.slice sa ss.length sc) ss S w3) := HM.out.call hk3 hs3
            clear hk3 hs3 HKD
            go_wp2_with fail
            refine Calls.mono (KAtL.tick HM3.out.kat HSM.out) ?_
            rintro e w5 ⟨rfl, hk5, hs5⟩
            have HM5 : Hid _ := HM3.out.call hk5 hs5
            clear hk5 hs5
            go_wp2_with fail
            exact ⟨⟨t + 1, at', g, ss, tickK S, by first | rfl | go_num, by first | rfl | go_num, by go_num, by omega, HP.out.empty hod hlt hgt, HK.out.tick, HM5⟩, by simp [intOf]; omega⟩
    · have hlt' : ¬ (t : Int) < 4 * ((xs.length : Int) + 4) + (h : Int) := by omega
      have hte : t = 4 * (xs.length + 4) + h := by omega
      have HE : Hid (g = ss.length ∧ at' = xs.length) := by subst hte; exact HP.out.end_
      obtain ⟨e1, e2⟩ := HE.out
      have e1' : (g : Int) = (ss.length : Int) := by omega
      have e2' : (at' : Int) = (xs.length : Int) := by omega
      clear HE e1 e2 hte
      go_wp2_with fail
      go_ret
      exact ⟨rfl, HBW.out.trans (HM.out.bel.mono HBW.out.size)⟩
end Go.Proofs.YteioennfpkoagaaGreatDoor.C
