/-
  A walk in memory, as it goes on: what stands for states, rows; plain: one byte more.
-/
import Derived.Test.YtkdkibnjfgcppaaMn
namespace Go.Proofs.Ytkdkibnjfgcppaa.mi
open Go.ChangeShapes Go.WideShapes Go.ChangeAt Go.RowKit Go.Shelf Go.Maps
set_option linter.unusedVariables false

abbrev ivs (r : List Int) : List Value := r.map fun n : Int => Value.int .i64 n
def flat (rows : List (List Int)) : List Value := rows.flatMap ivs
/-- the languages of what stands for states -/
noncomputable def lgs (d : df.Dfa) (S : List Int) : List Lg := S.map fun s : Int => (dm d).lang (some s.toNat)
/-- a walk, with all that it leads to -/
structure Wst (d : df.Dfa) (cs : Array Value) (K : Nat) (w0 w : World) (gw gp gn : Nat) (F : List Nat) (nums : List Int) (sv rv : Value) (S : List Int) (rows : List (List Int)) : Prop where
  box : WBox w gw cs (.slice (some ⟨gp, 0, none⟩) F.length F.length) (.slice (some ⟨gn, 0, none⟩) F.length F.length) sv rv
  parts : NRow w gp F
  nrow : ZRow w gn nums
  st : df.Owns w K sv S
  rw : w.ownsRow K 89 256 rv rows.length (flat rows)
  a1 : gw ≠ gp ∧ gw ≠ gn ∧ gp ≠ gn ∧ K ≤ gw ∧ K ≤ gp ∧ K ≤ gn
  a2 : ∀ g, sv.ownBlock = some g → g ≠ gw ∧ g ≠ gp ∧ g ≠ gn ∧ rv.ownBlock ≠ some g
  a3 : ∀ g, rv.ownBlock = some g → g ≠ gw ∧ g ≠ gp ∧ g ≠ gn
  bel : Below K w0 w
  k0 : K ≤ w0.heap.size
theorem own_keep {w w' : World} {K t sz : Nat} {v : Value} {n : Nat} {xs : List Value} (h : w.ownsRow K t sz v n xs) (hk : ∀ g, v.ownBlock = some g → w'.heap[g]? = w.heap[g]?) : w'.ownsRow K t sz v n xs := by
  refine ⟨h.1, ?_⟩
  rcases h.2 with h2 | ⟨g, cap, cur, e, h3, h4, h5⟩
  · exact .inl h2
  · exact .inr ⟨g, cap, cur, e, h3, (hk g (by rw [e]; rfl)).trans h4, h5⟩
theorem own_lt {w : World} {K t sz : Nat} {v : Value} {n : Nat} {xs : List Value} (h : w.ownsRow K t sz v n xs) {g : Nat} (hg : v.ownBlock = some g) : K ≤ g ∧ g < w.heap.size := by
  rcases h.2 with ⟨rfl, _⟩ | ⟨g', cap, cur, e, h3, h4, h5⟩
  · cases hg
  · rw [e] at hg
    cases hg
    exact ⟨h3, (Array.getElem?_eq_some_iff.1 h4).1⟩
section
variable {d : df.Dfa} {cs : Array Value} {K : Nat} {w0 w w' : World} {gw gp gn : Nat} {F : List Nat} {nums : List Int} {sv rv : Value} {S : List Int} {rows : List (List Int)}
/-- what keeps all of the walk's blocks -/
theorem Wst.keep (h : Wst d cs K w0 w gw gp gn F nums sv rv S rows) (hk : ∀ g, g < w.heap.size → w'.heap[g]? = w.heap[g]?) (hb : Below K w0 w') : Wst d cs K w0 w' gw gp gn F nums sv rv S rows :=
  ⟨h.box.keep (hk _ h.box.lt), h.parts.keep (hk _ h.parts.lt), (hk _ h.nrow.lt).trans h.nrow, own_keep h.st (fun g hg => hk g (own_lt h.st hg).2), own_keep h.rw (fun g hg => hk g (own_lt h.rw hg).2), h.a1, h.a2, h.a3, hb, h.k0⟩
theorem Wst.later (h : Wst d cs K w0 w gw gp gn F nums sv rv S rows) (b : Below w.heap.size w w') : Wst d cs K w0 w' gw gp gn F nums sv rv S rows :=
  h.keep (fun g hg => b.block g hg) (h.bel.trans ⟨b.os, b.tape, b.output, b.size, fun k hk => b.block k (by have := h.bel.size; have := h.k0; omega)⟩)
/-- a store beside the walk -/
theorem Wst.beside (h : Wst d cs K w0 w gw gp gn F nums sv rv S rows) {g : Nat} (hg : g ≠ gw ∧ g ≠ gp ∧ g ≠ gn ∧ sv.ownBlock ≠ some g ∧ rv.ownBlock ≠ some g ∧ K ≤ g) (i : Nat) (v : Value) : Wst d cs K w0 (w.setCell ⟨g, i, none⟩ v) gw gp gn F nums sv rv S rows := by
  have hk : ∀ k, k ≠ g → (w.setCell ⟨g, i, none⟩ v).heap[k]? = w.heap[k]? := fun k hk => Below.heap_setCell _ _ _ _ (fun e => hk e)
  exact ⟨h.box.keep (hk _ (fun e => hg.1 e.symm)), h.parts.keep (hk _ (fun e => hg.2.1 e.symm)), (hk _ (fun e => hg.2.2.1 e.symm)).trans h.nrow, own_keep h.st (fun k e => hk k (fun e2 => hg.2.2.2.1 (e2 ▸ e))), own_keep h.rw (fun k e => hk k (fun e2 => hg.2.2.2.2.1 (e2 ▸ e))), h.a1, h.a2, h.a3, h.bel.setCell (p := ⟨g, i, none⟩) (by exact hg.2.2.2.2.2) _, h.k0⟩
/-- a part gets its number -/
theorem Wst.num (h : Wst d cs K w0 w gw gp gn F nums sv rv S rows) (i : Nat) (v : Int) : Wst d cs K w0 (w.setCell ⟨gn, i, none⟩ (.int .i64 v)) gw gp gn F (nums.set i v) sv rv S rows := by
  have hk : ∀ k, k ≠ gn → (w.setCell ⟨gn, i, none⟩ (.int .i64 v)).heap[k]? = w.heap[k]? := fun k hk => Below.heap_setCell _ _ _ _ (fun e => hk e)
  exact ⟨h.box.keep (hk _ h.a1.2.1), h.parts.keep (hk _ h.a1.2.2.1), h.nrow.put i v, own_keep h.st (fun k e => hk k (h.a2 k e).2.2.1), own_keep h.rw (fun k e => hk k (h.a3 k e).2.2), h.a1, h.a2, h.a3, h.bel.setCell (p := ⟨gn, i, none⟩) (by exact h.a1.2.2.2.2.2) _, h.k0⟩
end

/-! plain: one byte more -/
/-- a row, so far -/
def rowZ (r : List Int) : List Int := r ++ List.replicate (256 - r.length) 0
theorem rowZ_len (r : List Int) (h : r.length ≤ 256) : (rowZ r).length = 256 := by simp [rowZ]; omega
theorem rowZ_nil : rowZ [] = zr := rfl
theorem rowZ_all (r : List Int) (h : r.length = 256) : rowZ r = r := by simp [rowZ, h]
theorem rowZ_set (r : List Int) (v : Int) (h : r.length < 256) : (rowZ r).set r.length v = rowZ (r ++ [v]) := by
  unfold rowZ
  rw [List.set_append_right _ _ (Nat.le_refl _), Nat.sub_self]
  rw [show 256 - r.length = (256 - (r ++ [v]).length) + 1 by simp; omega, List.replicate_succ, List.set_cons_zero, List.append_assoc]
  rfl
theorem rowN_next (sts : List Lg) (L : Lg) (k : Nat) : rowN sts L (k + 1) = ((met (rowN sts L k).1 (dv L (by8 k))).1, (rowN sts L k).2 ++ [(met (rowN sts L k).1 (dv L (by8 k))).2]) := rfl
end Go.Proofs.Ytkdkibnjfgcppaa.mi
