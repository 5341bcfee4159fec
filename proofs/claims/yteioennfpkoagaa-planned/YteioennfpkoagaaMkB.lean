import Derived.Test.YteioennfpkoagaaMkA
import Derived.Test.YteioennfpkoagaaChkY
import Derived.Laws.OwnMore
import Derived.Deep.AppendLies
namespace Go.Proofs.Yteioennfpkoagaa.C
open Go.RowKit

/- rows in memory -/
theorem flat_at {α : Type} (f : α → List Value) (s : Nat) (hf : ∀ x, (f x).length = s) (l : List α) (i j : Nat) (hi : i < l.length) (hj : j < s) : (l.flatMap f)[i * s + j]? = (f l[i])[j]? := by
  induction l generalizing i with
  | nil => simp at hi
  | cons x l ih =>
    cases i with
    | zero =>
      rw [List.flatMap_cons, Nat.zero_mul, Nat.zero_add, List.getElem?_append_left (by rw [hf]; exact hj)]
      rfl
    | succ i =>
      have h := ih i (by simpa using hi)
      rw [List.flatMap_cons, List.getElem?_append_right (by rw [hf, Nat.succ_mul]; omega), hf, Nat.succ_mul, show i * s + s + j - s = i * s + j by omega, h]
      rfl
theorem rows_len {α : Type} (f : α → List Value) (s : Nat) (hf : ∀ x, (f x).length = s) (l : List α) : (l.flatMap f).length = l.length * s := by
  induction l with
  | nil => simp
  | cons x l ih => rw [List.flatMap_cons, List.length_append, ih, hf, List.length_cons, Nat.succ_mul]; omega
def rC1 (r : RegD) : List Value := [.int .i64 r.page, .int .i64 r.pages, .int .i64 r.rights]
def rC (rs : List RegD) : List Value := rs.flatMap rC1
def pC1 (y : PartD × Value) : List Value := [.string y.1.name, .int .i64 y.1.period, .int .i64 y.1.duration, .int .i64 y.1.action, y.2]
def pC (ys : List (PartD × Value)) : List Value := ys.flatMap pC1
def cC1 (c : ChanD) : List Value := [.string c.name, .int .i64 c.source, .int .i64 c.target, .int .i64 c.kind, .int .i64 c.size, .int .i64 c.depth]
def cC (cs : List ChanD) : List Value := cs.flatMap cC1
theorem own_form {w : World} {B e s n : Nat} {v : Value} {xs : List Value} (h : w.ownsRow B e s v n xs) : (n = 0 ∧ v = .slice none 0 0) ∨ ∃ g cap, v = .slice (some ⟨g, 0, none⟩) n cap ∧ n ≤ cap := by
  rcases h.2 with ⟨rfl, h0⟩ | ⟨g, cap, cur, rfl, hB, hg, hle, rest⟩
  · exact .inl ⟨h0, rfl⟩
  · exact .inr ⟨g, cap, rfl, hle⟩
theorem own_cap {w : World} {B e s n : Nat} {v : Value} {xs : List Value} (h : w.ownsRow B e s v n xs) : capV v := by
  rcases own_form h with ⟨rfl, rfl⟩ | ⟨g, cap, rfl, hle⟩
  · exact ⟨_, _, _, rfl, Nat.le_refl _⟩
  · exact ⟨_, _, _, rfl, hle⟩
theorem regs_see {w : World} {B : Nat} {v : Value} {rs : List RegD} (h : w.ownsRow B 54 3 v rs.length (rC rs)) : RegsV w v rs := by
  rcases own_form h with ⟨h0, rfl⟩ | ⟨g, cap, rfl, _⟩
  · have : rs = [] := List.eq_nil_of_length_eq_zero h0
    subst this
    exact ⟨_, _, rfl, fun i hi => absurd hi (by simp)⟩
  · refine ⟨some ⟨g, 0, none⟩, cap, rfl, fun i hi => ⟨g, 0, rfl, ?_⟩⟩
    have hr : ∀ j, j < 3 → w.cell? ⟨g, 0 + i * 3 + j, none⟩ = (rC1 rs[i])[j]? := fun j hj => by
      rw [Nat.zero_add, World.ownsRow.cellAt h _ (by omega)]
      exact flat_at rC1 3 (fun _ => rfl) rs i j hi hj
    exact ⟨hr 0 (by omega), hr 1 (by omega), hr 2 (by omega)⟩
theorem chans_see {w : World} {B : Nat} {v : Value} {cs : List ChanD} (h : w.ownsRow B 56 6 v cs.length (cC cs)) : ChansV w v cs := by
  rcases own_form h with ⟨h0, rfl⟩ | ⟨g, cap, rfl, _⟩
  · have : cs = [] := List.eq_nil_of_length_eq_zero h0
    subst this
    exact ⟨_, _, rfl, fun i hi => absurd hi (by simp)⟩
  · refine ⟨some ⟨g, 0, none⟩, cap, rfl, fun i hi => ⟨g, 0, rfl, ?_⟩⟩
    have hr : ∀ j, j < 6 → w.cell? ⟨g, 0 + i * 6 + j, none⟩ = (cC1 cs[i])[j]? := fun j hj => by
      rw [Nat.zero_add, World.ownsRow.cellAt h _ (by omega)]
      exact flat_at cC1 6 (fun _ => rfl) cs i j hi hj
    exact ⟨hr 0 (by omega), hr 1 (by omega), hr 2 (by omega), hr 3 (by omega), hr 4 (by omega), hr 5 (by omega)⟩
/- partitions, each with the list of its regions -/
structure PA (w : World) (B : Nat) (v : Value) (ys : List (PartD × Value)) : Prop where
  own : w.ownsRow B 45 5 v ys.length (pC ys)
  reg : ∀ y ∈ ys, w.ownsRow B 54 3 y.2 y.1.regs.length (rC y.1.regs)
theorem own_stays {w w' : World} {B e s n : Nat} {v : Value} {xs : List Value} (h : w.ownsRow B e s v n xs) (hb : Below w.heap.size w w') : w'.ownsRow B e s v n xs := by
  refine ⟨h.1, ?_⟩
  rcases h.2 with hn | ⟨g, cap, cur, hv, hB, hg, rest⟩
  · exact .inl hn
  · exact .inr ⟨g, cap, cur, hv, hB, (hb.block _ (lt_of_blk hg)).trans hg, rest⟩
theorem PA.below {w w' : World} {B : Nat} {v : Value} {ys : List (PartD × Value)} (h : PA w B v ys) (hb : Below w.heap.size w w') : PA w' B v ys :=
  ⟨own_stays h.own hb, fun y hy => own_stays (h.reg y hy) hb⟩
theorem PA.see {w : World} {B : Nat} {v : Value} {ys : List (PartD × Value)} (h : PA w B v ys) : PartsV w v (ys.map Prod.fst) ∧ PartsC w v (ys.map Prod.fst).length := by
  have hlen : (ys.map Prod.fst).length = ys.length := by simp
  rcases own_form h.own with ⟨h0, rfl⟩ | ⟨g, cap, rfl, hle⟩
  · have : ys = [] := List.eq_nil_of_length_eq_zero h0
    subst this
    exact ⟨⟨_, _, rfl, fun i hi => absurd hi (by simp)⟩, ⟨_, _, _, rfl, Nat.le_refl _⟩, fun i hi => absurd hi (by simp)⟩
  · have hr : ∀ i (hi : i < ys.length) j, j < 5 → w.cell? ⟨g, i * 5 + j, none⟩ = (pC1 ys[i])[j]? := fun i hi j hj => by
      rw [World.ownsRow.cellAt h.own _ (by omega)]
      exact flat_at pC1 5 (fun _ => rfl) ys i j hi hj
    constructor
    · refine ⟨some ⟨g, 0, none⟩, cap, by rw [hlen], fun i hi => ⟨g, 0, (ys[i]'(by omega)).2, rfl, ?_⟩⟩
      have hi' : i < ys.length := by omega
      rw [List.getElem_map, Nat.zero_add]
      exact ⟨hr i hi' 0 (by omega), hr i hi' 1 (by omega), hr i hi' 2 (by omega), hr i hi' 3 (by omega), hr i hi' 4 (by omega), regs_see (h.reg _ (List.getElem_mem hi'))⟩
    · refine ⟨⟨_, _, _, rfl, by omega⟩, fun i hi b off l c e rv hc => ?_⟩
      have hi' : i < ys.length := by omega
      simp only [Value.slice.injEq, Option.some.injEq, Addr.mk.injEq, and_true] at e
      obtain ⟨⟨rfl, rfl⟩, _, _⟩ := e
      rw [Nat.zero_add, hr i hi' 4 (by omega)] at hc
      have : (ys[i]'hi').2 = rv := by simpa [pC1] using hc
      rw [← this]
      exact own_cap (h.reg _ (List.getElem_mem hi'))
theorem own_else {w w' : World} {B B' e e' s s' n n' : Nat} {v v' : Value} {xs xs' : List Value} (h : w.ownsRow B e s v n xs) (h' : w.ownsRow B' e' s' v' n' xs') (hne : e ≠ e') (hg : w.grownBy w' v'.ownBlock) : w'.ownsRow B e s v n xs := by
  apply h.kept hg
  rcases h.2 with ⟨rfl, _⟩ | ⟨g, cap, cur, rfl, _, hgg, _⟩
  · exact .inl rfl
  · right
    intro e1
    rcases h'.2 with ⟨rfl, _⟩ | ⟨g', cap', cur', rfl, _, hgg', _⟩
    · cases e1
    · have : g = g' := by simpa [Value.ownBlock] using e1
      subst this
      rw [hgg] at hgg'
      simp at hgg'
      exact hne hgg'.2
theorem PA.snoc {w w' : World} {B g c : Nat} {v u : Value} {ys : List (PartD × Value)} {x : PartD} (h : PA w B v ys) (hu : w.ownsRow B 54 3 u x.regs.length (rC x.regs)) (hg : w.grownBy w' v.ownBlock)
    (ho : w'.ownsRow B 45 5 (.slice (some ⟨g, 0, none⟩) (ys.length + 1) c) (ys.length + 1) (pC ys ++ pC1 (x, u))) : PA w' B (.slice (some ⟨g, 0, none⟩) (ys.length + 1) c) (ys ++ [(x, u)]) := by
  refine ⟨?_, fun y hy => ?_⟩
  · rw [List.length_append]
    have e : pC (ys ++ [(x, u)]) = pC ys ++ pC1 (x, u) := by simp [pC]
    rw [e]; exact ho
  · rcases List.mem_append.1 hy with hy | hy
    · exact own_else (h.reg y hy) h.own (by decide) hg
    · rw [List.mem_singleton.1 hy]; exact own_else hu h.own (by decide) hg
/- what made gives -/
def MadeK : Prop := ∀ (w : World) (u : Value) (L : List Int), IntsV w u L →
    Calls Try.prog 8 #[u] w fun e w' => ∃ F ps cs pv cv, e = .returned (.agg #[.int .i64 F, pv, cv]) ∧ PartsV w' pv ps ∧ ChansV w' cv cs ∧ PartsC w' pv ps.length ∧ capV cv ∧ (24 ≤ F ∧ F ≤ 240) ∧ (∃ i left, LI F i left ps ∧ i ≤ 6) ∧ ps ≠ [] ∧ CI ps.length F cs ∧ cs.length ≤ 7 ∧ Below w.heap.size w w'
end Go.Proofs.Yteioennfpkoagaa.C
