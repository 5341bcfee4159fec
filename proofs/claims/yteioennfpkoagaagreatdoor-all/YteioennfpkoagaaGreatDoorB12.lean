import Derived.Test.YteioennfpkoagaaGreatDoorB11
import Derived.Deep.DeepAppendRoom
import Derived.ArgAppend
import Derived.Deep.RegionLaw
import Derived.Deep.AppendLies
namespace Go.Proofs.YteioennfpkoagaaGreatDoor.C
open Go.RowKit

/- my generic lemmas, copied by wip/mk/gen_c.py from the texts of Texts -/
theorem own_below {w w' : World} {B e size n : Nat} {v : Value} {xs : List Value} (h : w.ownsRow B e size v n xs) (hb : Below w.heap.size w w') : w'.ownsRow B e size v n xs :=
  h.kept (row := none) ⟨hb.os, hb.tape, hb.output, hb.size, fun k hk _ => hb.block k hk⟩ (by cases v.ownBlock <;> simp)
theorem grown_refl (w : World) (row : Option Nat) : w.grownBy w row := ⟨rfl, rfl, rfl, Nat.le_refl _, fun _ _ _ => rfl⟩
theorem grown_trans {a b c : World} {row : Option Nat} (h : a.grownBy b row) (k : b.grownBy c row) : a.grownBy c row :=
  ⟨k.os.trans h.os, k.tape.trans h.tape, k.output.trans h.output, Nat.le_trans h.size k.size, fun i hi hne => (k.block i (Nat.lt_of_lt_of_le hi h.size) hne).trans (h.block i hi hne)⟩
theorem grown_below {a b : World} (h : Below a.heap.size a b) (row : Option Nat) : a.grownBy b row := ⟨h.os, h.tape, h.output, h.size, fun k hk _ => h.block k hk⟩
theorem grown_set (w : World) (b i : Nat) (v : Value) : w.grownBy (w.setCell ⟨b, i, none⟩ v) (some b) :=
  ⟨rfl, rfl, rfl, by simp [World.setCell], fun k _ hne => Below.heap_setCell _ _ _ _ (by intro h; apply hne; rw [h])⟩
theorem grown_alloc (w : World) (o : Obj) (row : Option Nat) : w.grownBy (w.alloc o) row := grown_below ((Below.refl _ _).alloc (Nat.le_refl _) _) row
theorem own_shapeT {w : World} {base e size n : Nat} {v : Value} {xs : List Value} (h : w.ownsRow base e size v n xs) : ∃ a c, v = .slice a n c := by
  rcases h.2 with ⟨rfl, rfl⟩ | ⟨g, cap, cur, rfl, _⟩
  · exact ⟨_, _, rfl⟩
  · exact ⟨_, _, rfl⟩
theorem own_mono {w : World} {base base' e size n : Nat} {v : Value} {xs : List Value} (h : w.ownsRow base e size v n xs) (hb : base' ≤ base) : w.ownsRow base' e size v n xs := by
  rcases h with ⟨h1, ⟨rfl, rfl⟩ | ⟨g, cap, cur, rfl, h2, h3⟩⟩
  · exact ⟨h1, .inl ⟨rfl, rfl⟩⟩
  · exact ⟨h1, .inr ⟨g, cap, cur, rfl, by omega, h3⟩⟩
theorem own_types {w : World} {base base' e e' size size' n n' : Nat} {v v' : Value} {xs xs' : List Value} (h : w.ownsRow base e size v n xs) (h' : w.ownsRow base' e' size' v' n' xs') (hne : e ≠ e') {k : Nat} (hk : v.ownBlock = some k) (hk' : v'.ownBlock = some k) : False := by
  rcases h.2 with ⟨rfl, _⟩ | ⟨g, cap, cur, rfl, _, hg, _⟩
  · simp [Value.ownBlock] at hk
  rcases h'.2 with ⟨rfl, _⟩ | ⟨g', cap', cur', rfl, _, hg', _⟩
  · simp [Value.ownBlock] at hk'
  simp [Value.ownBlock] at hk hk'
  subst hk hk'
  rw [hg] at hg'
  simp at hg'
  exact hne hg'.2
theorem own_kept {w w' : World} {base e size n : Nat} {v : Value} {xs : List Value} {row : Option Nat} (h : w.ownsRow base e size v n xs) (hg : w.grownBy w' row) (hr : ∀ k, row = some k → k < base ∨ w.heap.size ≤ k) : w'.ownsRow base e size v n xs :=
  h.kept hg (by
    cases hv : v.ownBlock with
    | none => exact .inl rfl
    | some k => right; intro hk; have h1 := h.lt k hv; have h2 := hr k hk.symm; omega)
theorem own_apart {w w' : World} {base base' e e' size size' n n' : Nat} {v v' : Value} {xs xs' : List Value} (h : w.ownsRow base e size v n xs) (h' : w.ownsRow base' e' size' v' n' xs') (hne : e ≠ e') (hg : w.grownBy w' v'.ownBlock) : w'.ownsRow base e size v n xs :=
  h.kept hg (by
    cases hv : v.ownBlock with
    | none => exact .inl rfl
    | some k => right; intro hk; exact own_types h h' hne hv hk.symm)
theorem own_cells {w : World} {base e size n g cap : Nat} {xs : List Value} (h : w.ownsRow base e size (.slice (some ⟨g, 0, none⟩) n cap) n xs) (j : Nat) (hj : j < n * size) : w.cell? ⟨g, j, none⟩ = xs[j]? := h.cellAt j hj
theorem own_nil_or {w : World} {base e size n : Nat} {v : Value} {xs : List Value} (h : w.ownsRow base e size v n xs) : (n = 0 ∧ v = .slice none 0 0) ∨ ∃ g cap, v = .slice (some ⟨g, 0, none⟩) n cap := by
  rcases h.2 with ⟨rfl, rfl⟩ | ⟨g, cap, cur, rfl, _⟩
  · exact .inl ⟨rfl, rfl⟩
  · exact .inr ⟨g, cap, rfl⟩
theorem own_other {w : World} {base e size n K T : Nat} {v : Value} {xs : List Value} {o : Array Value} (h : w.ownsRow base e size v n xs) (hK : w.heap[K]? = some (.cells o T (0, 0))) (hT : e ≠ T) (i : Nat) (u : Value) : (w.setCell ⟨K, i, none⟩ u).ownsRow base e size v n xs :=
  h.kept (grown_set w K i u) (by
    rcases h.2 with ⟨rfl, _⟩ | ⟨g, cap, cur, rfl, _, hg, _⟩
    · exact .inl rfl
    · right
      intro hk
      simp [Value.ownBlock] at hk
      subst hk
      rw [hg] at hK
      simp at hK
      exact hT hK.2)
def rep (pat : List Value) (n : Nat) : List Value := (List.replicate n pat).flatten
theorem rep_len (pat : List Value) (n : Nat) : (rep pat n).length = n * pat.length := by simp [rep]
theorem rep_add (pat : List Value) (n m : Nat) : rep pat (n + m) = rep pat n ++ rep pat m := by
  unfold rep; rw [← List.replicate_append_replicate, List.flatten_append]
theorem rep_one (pat : List Value) : rep pat 1 = pat := by simp [rep]
theorem rep_take (pat : List Value) (n k : Nat) (h : k ≤ n) : (rep pat n).take (k * pat.length) = rep pat k := by
  obtain ⟨m, rfl⟩ : ∃ m, n = k + m := ⟨n - k, by omega⟩
  rw [rep_add, ← rep_len pat k]; exact List.take_left
theorem rep_at (pat : List Value) (n k j : Nat) (hk : k < n) (hj : j < pat.length) : (rep pat n)[k * pat.length + j]? = pat[j]? := by
  obtain ⟨m, rfl⟩ : ∃ m, n = k + (1 + m) := ⟨n - k - 1, by omega⟩
  rw [rep_add, List.getElem?_append_right (by rw [rep_len]; omega), rep_len, rep_add, rep_one, Nat.add_sub_cancel_left, List.getElem?_append_left hj]
theorem own_set {w : World} {base e size n g cap j : Nat} {xs : List Value} (h : w.ownsRow base e size (.slice (some ⟨g, 0, none⟩) n cap) n xs) (_hj : j < n * size) (u : Value) : (w.setCell ⟨g, j, none⟩ u).ownsRow base e size (.slice (some ⟨g, 0, none⟩) n cap) n (xs.set j u) := by
  rcases h.2 with ⟨h0, _⟩ | ⟨g', cap', cur, hv, hb, hg, hnc, hcm, hcs, hta⟩
  · cases h0
  · cases hv
    refine ⟨by simpa using h.1, .inr ⟨_, _, _, rfl, hb, blk_set j u hg, hnc, hcm, by simpa using hcs, ?_⟩⟩
    rw [← hta]
    simp [Array.toList_setIfInBounds, List.take_set]
def setL (xs : List Value) (o : Nat) : List Value → List Value
  | [] => xs
  | v :: r => setL (xs.set o v) (o + 1) r
theorem own_setCells {base e size n g cap : Nat} (vs : List Value) : ∀ {w : World} {xs : List Value} {o : Nat}, w.ownsRow base e size (.slice (some ⟨g, 0, none⟩) n cap) n xs → o + vs.length ≤ n * size → (w.setCells g o vs).ownsRow base e size (.slice (some ⟨g, 0, none⟩) n cap) n (setL xs o vs) := by
  induction vs with
  | nil => intro w xs o h _; exact h
  | cons v r ih =>
    intro w xs o h hle
    simp only [List.length_cons] at hle
    exact ih (own_set h (by omega) v) (by omega)
theorem setL_mid (a c vs : List Value) : ∀ (b : List Value), b.length = vs.length → setL (a ++ (b ++ c)) a.length vs = a ++ (vs ++ c) := by
  induction vs generalizing a with
  | nil => intro b hb; have := List.eq_nil_of_length_eq_zero hb; subst this; rfl
  | cons v r ih =>
    intro b hb
    cases b with
    | nil => simp at hb
    | cons x b =>
      have e1 : (a ++ (x :: b ++ c)).set a.length v = (a ++ [v]) ++ (b ++ c) := by simp
      have e2 : a.length + 1 = (a ++ [v]).length := by simp
      simp only [setL]
      rw [e1, e2, ih (a ++ [v]) b (by simpa using hb)]
      simp
theorem fill_step {w : World} {base e size n g cap k : Nat} {pat rest : List Value} (hp : pat.length = size) (hk : k < n) (hr : rest.length = (n - k) * size) (h : w.ownsRow base e size (.slice (some ⟨g, 0, none⟩) n cap) n (rep pat k ++ rest)) :
    ∃ rest', rest'.length = (n - (k + 1)) * size ∧ (w.setCells g (k * size) pat).ownsRow base e size (.slice (some ⟨g, 0, none⟩) n cap) n (rep pat (k + 1) ++ rest') := by
  have hsub : n - k = (n - (k + 1)) + 1 := by omega
  have hlen : rest.length = (n - (k + 1)) * size + size := by rw [hr, hsub, Nat.succ_mul]
  have hle : (k + 1) * size ≤ n * size := Nat.mul_le_mul_right _ (by omega)
  rw [Nat.succ_mul] at hle
  refine ⟨rest.drop size, by rw [List.length_drop]; omega, ?_⟩
  have h1 := own_setCells pat h (o := k * size) (by rw [hp]; omega)
  have e : rep pat k ++ rest = rep pat k ++ (rest.take size ++ rest.drop size) := by rw [List.take_append_drop]
  have el : k * size = (rep pat k).length := by rw [rep_len, hp]
  rw [e, el, setL_mid _ _ _ _ (by rw [List.length_take, hp]; omega)] at h1
  rw [el, rep_add, rep_one, List.append_assoc]
  exact h1
theorem grown_setCells (g : Nat) (vs : List Value) : ∀ (o : Nat) (w : World), w.grownBy (w.setCells g o vs) (some g) := by
  induction vs with
  | nil => intro o w; exact grown_refl w _
  | cons v r ih => intro o w; exact grown_trans (grown_set w g o v) (ih (o + 1) _)
structure KB (A : Nat → Prop) (w w' : World) : Prop where
  os : w'.os = w.os
  tape : w'.tape = w.tape
  output : w'.output = w.output
  size : w.heap.size ≤ w'.heap.size
  block : ∀ k, k < w.heap.size → ¬ A k → w'.heap[k]? = w.heap[k]?
theorem KB.refl (A : Nat → Prop) (w : World) : KB A w w := ⟨rfl, rfl, rfl, Nat.le_refl _, fun _ _ _ => rfl⟩
theorem KB.trans {A : Nat → Prop} {a b d : World} (h : KB A a b) (k : KB A b d) : KB A a d :=
  ⟨k.os.trans h.os, k.tape.trans h.tape, k.output.trans h.output, Nat.le_trans h.size k.size, fun i hi hA => (k.block i (Nat.lt_of_lt_of_le hi h.size) hA).trans (h.block i hi hA)⟩
theorem KB.step {A A' : Nat → Prop} {a b d : World} (h : KB A a b) (k : KB A' b d) (hA : ∀ x, x < a.heap.size → A' x → A x) : KB A a d :=
  ⟨k.os.trans h.os, k.tape.trans h.tape, k.output.trans h.output, Nat.le_trans h.size k.size, fun i hi hn => (k.block i (Nat.lt_of_lt_of_le hi h.size) (fun hx => hn (hA i hi hx))).trans (h.block i hi hn)⟩
theorem KB.of {A : Nat → Prop} {w w' : World} {row : Option Nat} (h : w.grownBy w' row) (hr : ∀ k, row = some k → A k) : KB A w w' :=
  ⟨h.os, h.tape, h.output, h.size, fun k hk hA => h.block k hk (fun e => hA (hr k e.symm))⟩
theorem KB.below {A : Nat → Prop} {w w' : World} (h : Below w.heap.size w w') : KB A w w' := KB.of (row := none) (grown_below h none) (by simp)
theorem KB.toBelow {A : Nat → Prop} {B : Nat} {w w' : World} (h : KB A w w') (hB : B ≤ w.heap.size) (hA : ∀ k, A k → B ≤ k) : Below B w w' :=
  ⟨h.os, h.tape, h.output, h.size, fun k hk => h.block k (by omega) (fun ha => by have := hA k ha; omega)⟩
theorem KB.own {A : Nat → Prop} {w w' : World} {base e size n : Nat} {v : Value} {xs : List Value} (h : w.ownsRow base e size v n xs) (hk : KB A w w') (hA : ∀ x, v.ownBlock = some x → ¬ A x) : w'.ownsRow base e size v n xs := by
  rcases h with ⟨hl, ⟨rfl, h0⟩ | ⟨g, cap, cur, rfl, h4, hg, h5⟩⟩
  · exact ⟨hl, .inl ⟨rfl, h0⟩⟩
  · exact ⟨hl, .inr ⟨g, cap, cur, rfl, h4, by rw [hk.block g (lt_of_blk hg) (hA g rfl)]; exact hg, h5⟩⟩
theorem own_not {w : World} {base e size n T K : Nat} {v : Value} {xs : List Value} {o : Array Value} (h : w.ownsRow base e size v n xs) (hK : w.heap[K]? = some (.cells o T (0, 0))) (hT : e ≠ T) : v.ownBlock ≠ some K := by
  rcases h.2 with ⟨rfl, _⟩ | ⟨g, cap, cur, rfl, _, hg, _⟩
  · simp [Value.ownBlock]
  · simp [Value.ownBlock]
    rintro rfl
    rw [hg] at hK
    simp at hK
    exact hT hK.2
theorem KB.mono {A A' : Nat → Prop} {w w' : World} (h : KB A w w') (hA : ∀ x, A x → A' x) : KB A' w w' := ⟨h.os, h.tape, h.output, h.size, fun k hk hn => h.block k hk (fun hx => hn (hA k hx))⟩
theorem grown_own {w w' : World} {row : Option Nat} (h : w.grownBy w' row) : KB (fun k => row = some k) w w' := KB.of h (fun _ hk => hk)
end Go.Proofs.YteioennfpkoagaaGreatDoor.C
namespace Go.Proofs.YteioennfpkoagaaGreatDoor.C
open Go.RowKit

/- my generic lemmas, copied by wip/mk/gen_p.py from the texts of Texts -/
theorem run_append_stays {P : Program} (w : World) (base : Nat) (t ty e : TypeId) (i : TypeInfo) (z : Value) (size bytes : Nat) (ht : P.underlying t = some (.slice e)) (hi : P.info? e = some i) (hz : i.zero = some z)
    (hsize : i.size = size) (hby : i.bytes = bytes) (hzs : z.cells.size = size) (hsz : 0 < size)
    (v : Value) (n : Nat) (xs : List Value) (hown : w.ownsRow base e size v n xs)
    (ad : Addr) (m c : Nat) (news : List Value) (hl : news.length = m * size) (hnews : ∀ j u, news[j]? = some u → w.cell? (ad.add j) = some u) (h1 : ∀ u ∈ news, u.oneCell' = true)
    (hm : 0 < m) (h63 : n + m ≤ maxLen) (hbytes : (n + m) * bytes ≤ 140737488355328) (hbase : base ≤ w.heap.size) :
    ∃ g cap w', (Builtin.append_ #[t, t] ty #[v, .slice (some ad) m c]).run P w = .ok (.slice (some ⟨g, 0, none⟩) (n + m) cap) w' ∧ w'.ownsRow base e size (.slice (some ⟨g, 0, none⟩) (n + m) cap) (n + m) (xs ++ news) ∧ w'.ownsRow base e size v n xs ∧ w.grownBy w' v.ownBlock ∧ (v = .slice (some ⟨g, 0, none⟩) n cap ∨ (w.grownBy w' none ∧ w.heap.size ≤ g)) := by
  rcases own_nil_or hown with ⟨rfl, rfl⟩ | ⟨g, cap, rfl⟩
  · obtain rfl : xs = [] := List.eq_nil_of_length_eq_zero (by simpa using hown.1)
    obtain ⟨v', w', hr, h2, h3, _⟩ := run_append_own (P := P) w w.heap.size t ty e i z size bytes ht hi hz hsize hby hzs hsz (.slice none 0 0) 0 [] (World.ownsRow_nil w _ e size) ad m c news hl hnews h1 (by omega) (by omega) (Nat.le_refl _)
    rcases own_nil_or h2 with ⟨h0, _⟩ | ⟨g, cap, rfl⟩
    · omega
    · have h3' : w.grownBy w' none := h3
      exact ⟨g, cap, w', hr, own_mono h2 hbase, World.ownsRow_nil _ _ _ _, h3', .inr ⟨h3', (h2.lt g rfl).1⟩⟩
  · by_cases hroom : n + m ≤ cap
    · obtain ⟨w', hr, h2, h3⟩ := run_append_own_spare (P := P) w base t ty e i size ht hi hsize g n cap xs hown ad m c news hl hnews h1 hroom
      refine ⟨g, cap, w', hr, h2, ?_, h3, .inl rfl⟩
      rcases h2.2 with ⟨h0, _⟩ | ⟨g', cap', cur, hv, hb, hg, hnc, hcm, hcs, hta⟩
      · cases h0
      · cases hv
        refine ⟨hown.1, .inr ⟨g, cap, cur, rfl, hb, hg, by omega, hcm, hcs, ?_⟩⟩
        have hle : n * size ≤ (n + m) * size := Nat.mul_le_mul_right _ (by omega)
        have : cur.toList.take (n * size) = (cur.toList.take ((n + m) * size)).take (n * size) := by rw [List.take_take, Nat.min_eq_left hle]
        rw [this, hta, List.take_append_of_le_length (by rw [hown.1]; exact Nat.le_refl _), List.take_of_length_le (by rw [hown.1]; exact Nat.le_refl _)]
    · obtain ⟨v', w', hr, h2, h3⟩ := run_append_arg_grows (P := P) w t ty e i z size bytes ht hi hz hsize hby hzs hsz ⟨g, 0, none⟩ n cap xs hown.1 (hown.cells rfl) ad m c news hl hnews (by omega) h63 hbytes
      rcases own_nil_or h2 with ⟨h0, _⟩ | ⟨g2, cap2, rfl⟩
      · omega
      · exact ⟨g2, cap2, w', hr, own_mono h2 hbase, hown.kept h3 (.inr (by simp [Value.ownBlock])), ⟨h3.os, h3.tape, h3.output, h3.size, fun k hk _ => h3.block k hk (by simp)⟩, .inr ⟨h3, (h2.lt g2 rfl).1⟩⟩
theorem wpList_append_stays {P : Program} (w : World) {ops : Array Oper} {rest : List Oper} {o : Oper} {a : Act} {Q : Exit → Act → World → Prop} (hgd : o.guard = none) (s x : Operand) (t : TypeId)
    (ho : o.op = .call { callee := .builtin .append, args := #[s, x], argTypes := #[t, t] })
    (base : Nat) (e : TypeId) (i : TypeInfo) (z : Value) (size bytes : Nat) (ht : P.underlying t = some (.slice e)) (hi : P.info? e = some i) (hz : i.zero = some z)
    (hsize : i.size = size) (hby : i.bytes = bytes) (hzs : z.cells.size = size) (hsz : 0 < size)
    (v : Value) (n : Nat) (xs : List Value) (hs : a.eval s = v) (hown : w.ownsRow base e size v n xs)
    (ad : Addr) (m c : Nat) (news : List Value) (hx : a.eval x = .slice (some ad) m c) (hl : news.length = m * size) (hnews : ∀ j u, news[j]? = some u → w.cell? (ad.add j) = some u) (h1 : ∀ u ∈ news, u.oneCell' = true)
    (hm : 0 < m) (h63 : n + m ≤ maxLen) (hbytes : (n + m) * bytes ≤ 140737488355328) (hbase : base ≤ w.heap.size)
    (h : ∀ g cap w', w'.ownsRow base e size (.slice (some ⟨g, 0, none⟩) (n + m) cap) (n + m) (xs ++ news) → w'.ownsRow base e size v n xs → w.grownBy w' v.ownBlock → (v = .slice (some ⟨g, 0, none⟩) n cap ∨ (w.grownBy w' none ∧ w.heap.size ≤ g)) → wpList P ops Q rest (a.put o.dst (.slice (some ⟨g, 0, none⟩) (n + m) cap)) w') : wpList P ops Q (o :: rest) a w := by
  refine wpList_plain hgd fun K hK => ?_
  obtain ⟨g, cap, w', hr, h2, h3, h4, h5⟩ := run_append_stays (P := P) w base t o.type e i z size bytes ht hi hz hsize hby hzs hsz v n xs hown ad m c news hl hnews h1 hm h63 hbytes hbase
  unfold Oper.wp execOp
  simp only [ho, resolve, invoke, builtin, Sem.run_bind, Sem.run_pure, Result.andThen_ok, List.map_toArray, List.map_cons, List.map_nil, hs, hx, hr]
  exact hK _ _ (h g cap w' h2 h3 h4 h5)
theorem pat_stays {w w' : World} {base e size n m nu g cap : Nat} {pat : List Value} {u v : Value} (hp : pat.length = size) (hsz : 0 < size) (hu : w.ownsRow base e size u nu (rep pat nu)) (hle : nu ≤ n + m)
    (hv : w.ownsRow base e size v n (rep pat n)) (hnew : w'.ownsRow base e size (.slice (some ⟨g, 0, none⟩) (n + m) cap) (n + m) (rep pat n ++ rep pat m)) (hg : w.grownBy w' v.ownBlock)
    (hc : v = .slice (some ⟨g, 0, none⟩) n cap ∨ (w.grownBy w' none ∧ w.heap.size ≤ g)) : w'.ownsRow base e size u nu (rep pat nu) := by
  rcases hc with rfl | ⟨hg2, _⟩
  · by_cases hb : u.ownBlock = some g
    · rcases own_nil_or hu with ⟨rfl, rfl⟩ | ⟨g1, c1, rfl⟩
      · exact World.ownsRow_nil _ _ _ _
      · simp [Value.ownBlock] at hb
        subst hb
        rcases hu.2 with ⟨h0, _⟩ | ⟨ga, ca, cura, hva, hba, hga, hnca, hcma, hcsa, hta⟩
        · cases h0
        rcases hv.2 with ⟨h0, _⟩ | ⟨gb, cb, curb, hvb, hbb, hgb, hncb, hcmb, hcsb, htb⟩
        · cases h0
        rcases hnew.2 with ⟨h0, _⟩ | ⟨gd, cd, curd, hvd, hbd, hgd, hncd, hcmd, hcsd, htd⟩
        · cases h0
        cases hva
        cases hvb
        cases hvd
        rw [hga] at hgb
        have e0 : cura = curb := by injection hgb with hgb; injection hgb
        subst e0
        have e1 : c1 = cap := Nat.eq_of_mul_eq_mul_right hsz (hcsa.symm.trans hcsb)
        subst e1
        refine ⟨hu.1, .inr ⟨_, _, curd, rfl, hbd, hgd, hnca, hcmd, hcsd, ?_⟩⟩
        have hle2 : nu * size ≤ (n + m) * size := Nat.mul_le_mul_right _ hle
        have : curd.toList.take (nu * size) = (curd.toList.take ((n + m) * size)).take (nu * size) := by rw [List.take_take, Nat.min_eq_left hle2]
        rw [this, htd, ← rep_add, ← hp, rep_take pat _ _ hle]
    · exact hu.kept hg (.inr (by simpa [Value.ownBlock] using hb))
  · exact hu.kept hg2 (by cases u.ownBlock <;> simp)
theorem wrap_bad (j : Nat) (h : j ≤ 1000000000000) : IntKind.i64.wrap (-1000 - (j : Int)) = -1000 - (j : Int) := by simp [IntKind.wrap, IntKind.bits, IntKind.signed]; omega
theorem quo4 (n : Nat) : ((n : Int) / 4) = ((n / 4 : Nat) : Int) := by omega
theorem four_at {P : Nat → Value → Prop} {R : List Value} {a b d f : Value} (h : ∀ i (hi : i < R.length), P i R[i]) (h4 : R.length % 4 = 0) (hn : ∀ u ∈ [a, b, d, f], ∀ t, t < 4 → P (R.length + t) u) : ∀ i (hi : i < (R ++ [a, b, d, f]).length), P i (R ++ [a, b, d, f])[i] := by
  intro i hi
  by_cases hlt : i < R.length
  · rw [List.getElem_append_left hlt]; exact h i hlt
  · rw [List.getElem_append_right (by omega)]
    have h2 : i - R.length < 4 := by simp at hi; omega
    have e : i = R.length + (i - R.length) := by omega
    have := hn ([a, b, d, f][i - R.length]'(by simp; omega)) (List.getElem_mem _) (i - R.length) h2
    rw [← e] at this; exact this
end Go.Proofs.YteioennfpkoagaaGreatDoor.C
