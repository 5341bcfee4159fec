import Derived.Test.YteioennfpkoagaaChkT
import Derived.Deep.AppendLies
namespace Go.Proofs.Yteioennfpkoagaa.C
open Go.RowKit

/- my generic lemmas, copied by wip/mk/gen_p.py from the texts of Texts -/
theorem run_append_stays {P : Program} (w : World) (base : Nat) (t ty e : TypeId) (i : TypeInfo) (z : Value) (size bytes : Nat) (ht : P.underlying t = some (.slice e)) (hi : P.info? e = some i) (hz : i.zero = some z)
    (hsize : i.size = size) (hby : i.bytes = bytes) (hzs : z.cells.size = size) (hsz : 0 < size)
    (v : Value) (n : Nat) (xs : List Value) (hown : w.ownsRow base e size v n xs)
    (ad : Addr) (m c : Nat) (news : List Value) (hl : news.length = m * size) (hnews : ∀ j u, news[j]? = some u → w.cell? (ad.add j) = some u) (h1 : ∀ u ∈ news, u.oneCell' = true)
    (hm : 0 < m) (h63 : n + m ≤ maxLen) (hbytes : (n + m) * bytes ≤ 140737488355328) (hbase : base ≤ w.heap.size) :
    ∃ g cap w', (Builtin.append_ #[t, t] ty #[v, .slice (some ad) m c]).run P w = .ok (.slice (some ⟨g, 0, none⟩) (n + m) cap) w' ∧ w'.ownsRow base e size (.slice (some ⟨g, 0, none⟩) (n + m) cap) (n + m) (xs ++ news) ∧ w'.ownsRow base e size v n xs ∧ w.grownBy w' v.ownBlock ∧ (v = .slice (some ⟨g, 0, none⟩) n cap ∨ (w.grownBy w' none ∧ w.heap.size ≤ g)) := by
  rcases own_nil_or hown with ⟨rfl, rfl⟩ | ⟨g, cap, rfl⟩
  · obtain rfl : xs = [] := List.eq_nil_of_length_eq_zero (by simpa using hown.1)
    obtain ⟨v', w', hr, h2, h3, _⟩ := run_append_own (P := P) w w.heap.size t ty e i z size bytes ht hi hz hsize hby hzs hsz (.slice none 0 0) 0 [] (World.ownsRow_nil w _ e size) ad m c news hl hnews h1 (by omega) (by omega) (Nat.le_refl _)
    rcases own_nil_or h2 with ⟨h0, _⟩ | ⟨g, cap, rfl⟩
    · omega
    · have h3' : w.grownBy w' none := h3
      exact ⟨g, cap, w', hr, own_mono h2 hbase, World.ownsRow_nil _ _ _ _, h3', .inr ⟨h3', (h2.lt g rfl).1⟩⟩
  · by_cases hroom : n + m ≤ cap
    · obtain ⟨w', hr, h2, h3⟩ := run_append_own_spare (P := P) w base t ty e i size ht hi hsize g n cap xs hown ad m c news hl hnews h1 hroom
      refine ⟨g, cap, w', hr, h2, ?_, h3, .inl rfl⟩
      rcases h2.2 with ⟨h0, _⟩ | ⟨g', cap', cur, hv, hb, hg, hnc, hcm, hcs, hta⟩
      · cases h0
      · cases hv
        refine ⟨hown.1, .inr ⟨g, cap, cur, rfl, hb, hg, by omega, hcm, hcs, ?_⟩⟩
        have hle : n * size ≤ (n + m) * size := Nat.mul_le_mul_right _ (by omega)
        have : cur.toList.take (n * size) = (cur.toList.take ((n + m) * size)).take (n * size) := by rw [List.take_take, Nat.min_eq_left hle]
        rw [this, hta, List.take_append_of_le_length (by rw [hown.1]; exact Nat.le_refl _), List.take_of_length_le (by rw [hown.1]; exact Nat.le_refl _)]
    · obtain ⟨v', w', hr, h2, h3⟩ := run_append_arg_grows (P := P) w t ty e i z size bytes ht hi hz hsize hby hzs hsz ⟨g, 0, none⟩ n cap xs hown.1 (hown.cells rfl) ad m c news hl hnews (by omega) h63 hbytes
      rcases own_nil_or h2 with ⟨h0, _⟩ | ⟨g2, cap2, rfl⟩
      · omega
      · exact ⟨g2, cap2, w', hr, own_mono h2 hbase, hown.kept h3 (.inr (by simp [Value.ownBlock])), ⟨h3.os, h3.tape, h3.output, h3.size, fun k hk _ => h3.block k hk (by simp)⟩, .inr ⟨h3, (h2.lt g2 rfl).1⟩⟩
theorem wpList_append_stays {P : Program} (w : World) {ops : Array Oper} {rest : List Oper} {o : Oper} {a : Act} {Q : Exit → Act → World → Prop} (hgd : o.guard = none) (s x : Operand) (t : TypeId)
    (ho : o.op = .call { callee := .builtin .append, args := #[s, x], argTypes := #[t, t] })
    (base : Nat) (e : TypeId) (i : TypeInfo) (z : Value) (size bytes : Nat) (ht : P.underlying t = some (.slice e)) (hi : P.info? e = some i) (hz : i.zero = some z)
    (hsize : i.size = size) (hby : i.bytes = bytes) (hzs : z.cells.size = size) (hsz : 0 < size)
    (v : Value) (n : Nat) (xs : List Value) (hs : a.eval s = v) (hown : w.ownsRow base e size v n xs)
    (ad : Addr) (m c : Nat) (news : List Value) (hx : a.eval x = .slice (some ad) m c) (hl : news.length = m * size) (hnews : ∀ j u, news[j]? = some u → w.cell? (ad.add j) = some u) (h1 : ∀ u ∈ news, u.oneCell' = true)
    (hm : 0 < m) (h63 : n + m ≤ maxLen) (hbytes : (n + m) * bytes ≤ 140737488355328) (hbase : base ≤ w.heap.size)
    (h : ∀ g cap w', w'.ownsRow base e size (.slice (some ⟨g, 0, none⟩) (n + m) cap) (n + m) (xs ++ news) → w'.ownsRow base e size v n xs → w.grownBy w' v.ownBlock → (v = .slice (some ⟨g, 0, none⟩) n cap ∨ (w.grownBy w' none ∧ w.heap.size ≤ g)) → wpList P ops Q rest (a.put o.dst (.slice (some ⟨g, 0, none⟩) (n + m) cap)) w') : wpList P ops Q (o :: rest) a w := by
  refine wpList_plain hgd fun K hK => ?_
  obtain ⟨g, cap, w', hr, h2, h3, h4, h5⟩ := run_append_stays (P := P) w base t o.type e i z size bytes ht hi hz hsize hby hzs hsz v n xs hown ad m c news hl hnews h1 hm h63 hbytes hbase
  unfold Oper.wp execOp
  simp only [ho, resolve, invoke, builtin, Sem.run_bind, Sem.run_pure, Result.andThen_ok, List.map_toArray, List.map_cons, List.map_nil, hs, hx, hr]
  exact hK _ _ (h g cap w' h2 h3 h4 h5)
theorem pat_stays {w w' : World} {base e size n m nu g cap : Nat} {pat : List Value} {u v : Value} (hp : pat.length = size) (hsz : 0 < size) (hu : w.ownsRow base e size u nu (rep pat nu)) (hle : nu ≤ n + m)
    (hv : w.ownsRow base e size v n (rep pat n)) (hnew : w'.ownsRow base e size (.slice (some ⟨g, 0, none⟩) (n + m) cap) (n + m) (rep pat n ++ rep pat m)) (hg : w.grownBy w' v.ownBlock)
    (hc : v = .slice (some ⟨g, 0, none⟩) n cap ∨ (w.grownBy w' none ∧ w.heap.size ≤ g)) : w'.ownsRow base e size u nu (rep pat nu) := by
  rcases hc with rfl | ⟨hg2, _⟩
  · by_cases hb : u.ownBlock = some g
    · rcases own_nil_or hu with ⟨rfl, rfl⟩ | ⟨g1, c1, rfl⟩
      · exact World.ownsRow_nil _ _ _ _
      · simp [Value.ownBlock] at hb
        subst hb
        rcases hu.2 with ⟨h0, _⟩ | ⟨ga, ca, cura, hva, hba, hga, hnca, hcma, hcsa, hta⟩
        · cases h0
        rcases hv.2 with ⟨h0, _⟩ | ⟨gb, cb, curb, hvb, hbb, hgb, hncb, hcmb, hcsb, htb⟩
        · cases h0
        rcases hnew.2 with ⟨h0, _⟩ | ⟨gd, cd, curd, hvd, hbd, hgd, hncd, hcmd, hcsd, htd⟩
        · cases h0
        cases hva
        cases hvb
        cases hvd
        rw [hga] at hgb
        have e0 : cura = curb := by injection hgb with hgb; injection hgb
        subst e0
        have e1 : c1 = cap := Nat.eq_of_mul_eq_mul_right hsz (hcsa.symm.trans hcsb)
        subst e1
        refine ⟨hu.1, .inr ⟨_, _, curd, rfl, hbd, hgd, hnca, hcmd, hcsd, ?_⟩⟩
        have hle2 : nu * size ≤ (n + m) * size := Nat.mul_le_mul_right _ hle
        have : curd.toList.take (nu * size) = (curd.toList.take ((n + m) * size)).take (nu * size) := by rw [List.take_take, Nat.min_eq_left hle2]
        rw [this, htd, ← rep_add, ← hp, rep_take pat _ _ hle]
    · exact hu.kept hg (.inr (by simpa [Value.ownBlock] using hb))
  · exact hu.kept hg2 (by cases u.ownBlock <;> simp)
theorem wrap_bad (j : Nat) (h : j ≤ 1000000000000) : IntKind.i64.wrap (-1000 - (j : Int)) = -1000 - (j : Int) := by simp [IntKind.wrap, IntKind.bits, IntKind.signed]; omega
theorem quo4 (n : Nat) : ((n : Int) / 4) = ((n / 4 : Nat) : Int) := by omega
theorem four_at {P : Nat → Value → Prop} {R : List Value} {a b d f : Value} (h : ∀ i (hi : i < R.length), P i R[i]) (h4 : R.length % 4 = 0) (hn : ∀ u ∈ [a, b, d, f], ∀ t, t < 4 → P (R.length + t) u) : ∀ i (hi : i < (R ++ [a, b, d, f]).length), P i (R ++ [a, b, d, f])[i] := by
  intro i hi
  by_cases hlt : i < R.length
  · rw [List.getElem_append_left hlt]; exact h i hlt
  · rw [List.getElem_append_right (by omega)]
    have h2 : i - R.length < 4 := by simp at hi; omega
    have e : i = R.length + (i - R.length) := by omega
    have := hn ([a, b, d, f][i - R.length]'(by simp; omega)) (List.getElem_mem _) (i - R.length) h2
    rw [← e] at this; exact this
end Go.Proofs.Yteioennfpkoagaa.C
