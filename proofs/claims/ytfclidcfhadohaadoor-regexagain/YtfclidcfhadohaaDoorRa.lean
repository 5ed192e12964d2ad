/-
  Contracts over this program: a node laid behind others, a node grown of its kids (regex.laid, grown).
-/
import Derived.Test.YtfclidcfhadohaaDoorRd
import Derived.Test.YtfclidcfhadohaaDoorRt
import Derived.Test.YtfclidcfhadohaaDoorDp
import Derived.Laws.AppendOwn
namespace Go.Proofs.YtfclidcfhadohaaDoor.st
open Go.ChangeShapes Go.WideShapes Go.ChangeAt Go.RowKit
set_option linter.unusedVariables false

def cells8 (x : Tr × Value) : List Value := [.int .i64 x.1.kind, .int .u64 x.1.set.a, .int .u64 x.1.set.b, .int .u64 x.1.set.c, .int .u64 x.1.set.d, .int .i64 x.1.min, .int .i64 x.1.max, x.2]
def cellsL : List (Tr × Value) → List Value
  | [] => []
  | x :: l => cells8 x ++ cellsL l
theorem cellsL_append (a b : List (Tr × Value)) : cellsL (a ++ b) = cellsL a ++ cellsL b := by
  induction a with
  | nil => rfl
  | cons x a ih => rw [List.cons_append, cellsL, cellsL, ih, List.append_assoc]
theorem cellsL_length (l : List (Tr × Value)) : (cellsL l).length = l.length * 8 := by
  induction l with
  | nil => rfl
  | cons x l ih => rw [cellsL, List.length_append, ih, List.length_cons]; simp [cells8]; omega
theorem cellsL_at (l : List (Tr × Value)) (i j : Nat) (h : i < l.length) (hj : j < 8) : (cellsL l)[i * 8 + j]? = (cells8 l[i])[j]? := by
  induction l generalizing i with
  | nil => simp at h
  | cons x l ih =>
    cases i with
    | zero => rw [cellsL, Nat.zero_mul, Nat.zero_add, List.getElem?_append_left (by simp [cells8]; omega)]; rfl
    | succ i =>
      rw [cellsL, List.getElem?_append_right (by simp [cells8]; omega)]
      rw [show (i + 1) * 8 + j - (cells8 x).length = i * 8 + j by simp [cells8]; omega]
      exact ih i (by simpa using h)

/-- kids that a call itself has laid -/
structure OwnK (B : Nat) (w : World) (v : Value) (l : List (Tr × Value)) : Prop where
  row : w.ownsRow B 28 8 v l.length (cellsL l)
  kids : ∀ x ∈ l, Is w (fun b => B ≤ b ∧ v.ownBlock ≠ some b) x.1 x.2

theorem own_nil (B : Nat) (w : World) : OwnK B w (.slice none 0 0) [] := ⟨World.ownsRow_nil w B 28 8, by simp⟩

theorem Is.weaken {w : World} {P P' : Nat → Prop} {t : Tr} {v : Value} (h : Is w P t v) (hP : ∀ b, P b → P' b) : Is w P' t v := h.carry (Nat.le_refl _) (fun b p _ => hP b p) (fun _ _ _ => rfl)

/-- memory that was made meanwhile, and writes to another block below, leave them -/
theorem OwnK.kept {B g : Nat} {w w' : World} {v : Value} {l : List (Tr × Value)} (h : OwnK B w v l) (t : w.grownBy w' (some g)) (hg : g < B) : OwnK B w' v l := by
  refine ⟨World.ownsRow.kept h.row t ?_, fun x hx => (h.kids x hx).carry t.size (fun _ p _ => p) (fun b p hlt => t.block b hlt (fun e => by have := Option.some.inj e; omega))⟩
  by_cases hv : v.ownBlock = none
  · exact .inl hv
  · exact .inr (fun e => by have := (World.ownsRow.lt h.row g e).1; omega)
theorem OwnK.below {B : Nat} {w w' : World} {v : Value} {l : List (Tr × Value)} (h : OwnK B w v l) (b : Below w.heap.size w w') : OwnK B w' v l :=
  ⟨World.ownsRow.kept (row := none) h.row (touch_below none b) (by cases v.ownBlock <;> simp), fun x hx => (h.kids x hx).later b⟩
theorem OwnK.shape {B : Nat} {w : World} {v : Value} {l : List (Tr × Value)} (h : OwnK B w v l) : ∃ a cap, v = .slice a l.length cap ∧ l.length ≤ cap := by
  rcases h.row.2 with ⟨rfl, h0⟩ | ⟨g, cap, cur, rfl, hb, hg, hcap, hm, hsz, htk⟩
  · exact ⟨none, 0, by rw [h0], by omega⟩
  · exact ⟨_, cap, rfl, hcap⟩

/-- as a node's kids -/
theorem OwnK.is {B : Nat} {w : World} {v : Value} {l : List (Tr × Value)} (h : OwnK B w v l) (k : Int) (q : Q4) (mn mx : Int) : Is w (fun b => B ≤ b) (.node k q mn mx (l.map Prod.fst)) v := by
  have hk := h.kids
  rcases h.row.2 with ⟨rfl, h0⟩ | ⟨g, cap, cur, rfl, hb, hg, hcap, hm, hsz, htk⟩
  · rw [List.eq_nil_of_length_eq_zero h0]; exact .leaf k q mn mx _ _
  · have hc := World.ownsRow.cells h.row (g := g) rfl
    have key := Is.node (w := w) (P := fun b => B ≤ b) k q mn mx (l.map Prod.fst) g 0 cap (fun i => (l.getD i (Tr.zero, .nilIface)).2) (by simpa using hcap) (by unfold maxLen at hm; omega) (Array.getElem?_eq_some_iff.1 hg).1 hb ?_ ?_
    · rw [List.length_map] at key; exact key
    · intro i hi
      rw [List.length_map] at hi
      have e1 : nthT (l.map Prod.fst) i = (l[i]).1 := by rw [nthT_lt _ i (by simpa using hi)]; simp
      have e2 : (l.getD i (Tr.zero, .nilIface)) = l[i] := by rw [List.getD_eq_getElem?_getD, List.getElem?_eq_getElem hi]; rfl
      have hadd : ∀ j, (⟨g, 0, none⟩ : Addr).add j = ⟨g, 0 + j, none⟩ := fun j => by unfold Addr.add; split <;> simp_all
      have hat : ∀ j x, j < 8 → (cells8 l[i])[j]? = some x → w.cell? ⟨g, 0 + i * 8 + j, none⟩ = some x := fun j x hj hx => by
        have := hc (i * 8 + j) x (by rw [cellsL_at l i j hi hj]; exact hx)
        rw [hadd] at this
        rw [Nat.add_assoc]; exact this
      rw [e1, e2]
      exact ⟨hat 0 _ (by decide) rfl, hat 1 _ (by decide) rfl, hat 2 _ (by decide) rfl, hat 3 _ (by decide) rfl, hat 4 _ (by decide) rfl, hat 5 _ (by decide) rfl, hat 6 _ (by decide) rfl, hat 7 _ (by decide) rfl⟩
    · intro i hi
      rw [List.length_map] at hi
      have e1 : nthT (l.map Prod.fst) i = (l[i]).1 := by rw [nthT_lt _ i (by simpa using hi)]; simp
      have e2 : (l.getD i (Tr.zero, .nilIface)) = l[i] := by rw [List.getD_eq_getElem?_getD, List.getElem?_eq_getElem hi]; rfl
      rw [e1, e2]
      exact (hk l[i] (List.getElem_mem hi)).weaken (fun b p => p.1)

theorem info28 : (Tryd.prog.info? 28).map (fun i => (i.zero, i.size, i.bytes)) = some (some (.agg #[.int .i64 0, .int .u64 0, .int .u64 0, .int .u64 0, .int .u64 0, .int .i64 0, .int .i64 0, .slice none 0 0]), 8, 80) := by kernel_rfl

/-- what an append leaves -/
theorem own_more {B : Nat} {w w' : World} {v v' : Value} {l m : List (Tr × Value)} (h : OwnK B w v l) (hm : ∀ x ∈ m, Is w (fun b => B ≤ b ∧ v.ownBlock ≠ some b) x.1 x.2) (o : w'.ownsRow B 28 8 v' (l.length + m.length) (cellsL l ++ cellsL m)) (t : w.grownBy w' v.ownBlock)
    (hv : v'.ownBlock = v.ownBlock ∨ ∃ k, v'.ownBlock = some k ∧ w.heap.size ≤ k) : OwnK B w' v' (l ++ m) := by
  refine ⟨by rw [List.length_append, cellsL_append]; exact o, fun x hx => ?_⟩
  have hx2 : Is w (fun b => B ≤ b ∧ v.ownBlock ≠ some b) x.1 x.2 := by
    rcases List.mem_append.1 hx with h1 | h1
    · exact h.kids x h1
    · exact hm x h1
  refine hx2.carry t.size (fun b p hlt => ⟨p.1, ?_⟩) (fun b p hlt => t.block b hlt (fun e => p.2 e.symm))
  rcases hv with e | ⟨k, e, hk⟩
  · rw [e]; exact p.2
  · rw [e]; intro e2; have := Option.some.inj e2; omega
end Go.Proofs.YtfclidcfhadohaaDoor.st
