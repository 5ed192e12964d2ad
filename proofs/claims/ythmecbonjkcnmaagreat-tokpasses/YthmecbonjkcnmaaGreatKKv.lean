/-
  Contracts over this program: without merges the ids of a text are its bytes; a configuration without merges.
-/
import Derived.Test.YthmecbonjkcnmaaGreatKKt
namespace Go.Proofs.YthmecbonjkcnmaaGreat.tk
open Go.ChangeShapes Go.WideShapes Go.ChangeAt Go.RowKit
open ru (Ru Rus apT apE Good)
open cf (Cf Cp cv CfAt CBox cfE cbox_new nthP)
open mg (Row In IntsV idsOf idsOf_len app)
open nb (built)
set_option linter.unusedVariables false
set_option maxRecDepth 100000

theorem mgN_nil : ∀ (n : Nat) (ids : List Int), mg.mgN [] n ids = ids
  | 0, _ => rfl
  | n + 1, ids => by
    unfold mg.mgN
    split
    · rfl
    · rename_i k r h
      exact absurd (mg.nx_some h).2.2.1 (by simp)
theorem app_nil (ids : List Int) : app [] ids = ids := mgN_nil _ _
theorem ids_ext (s : ByteArray) (a b : Nat) : idsOf (s.extract a b) = ((idsOf s).drop a).take (b - a) := by
  simp [idsOf, List.extract_eq_take_drop, List.map_take, List.map_drop]
theorem mids_nil {es : List nf.Ed} {s : ByteArray} : ∀ (n fr : Nat) (l : List Int), s.size ≤ fr + n → Mids es s [] fr l → l = (idsOf s).drop fr := by
  intro n
  induction n with
  | zero =>
    intro fr l hn h
    rcases mids_inv h with ⟨e, rfl⟩ | ⟨to, ids, g1, g2, _⟩
    · rw [List.drop_eq_nil_of_le (by rw [idsOf_len]; omega)]
    · omega
  | succ n ih =>
    intro fr l hn h
    rcases mids_inv h with ⟨e, rfl⟩ | ⟨to, ids, g1, g2, g3, g4, rfl⟩
    · rw [List.drop_eq_nil_of_le (by rw [idsOf_len]; omega)]
    · rw [ih to ids (by omega) g4, app_nil, ids_ext]
      have e : (idsOf s).drop to = ((idsOf s).drop fr).drop (to - fr) := by
        rw [List.drop_drop]
        congr 1
        omega
      rw [e, List.take_append_drop]
def noms (c : Cf) : Cf := { c with ms := [] }
def nomp (p : Cp) : Cp := { p with mo := none, mc := 0 }
theorem noms_ok {c : Cf} (h : cfE c = 0) : cfE (noms c) = 0 := by
  rw [cf.cfE_eq] at h ⊢
  have e1 : (noms c).ps = c.ps := rfl
  have e2 : (noms c).t = c.t := rfl
  have e3 : mg.errOf (noms c).ms = 0 := by simp [noms, mg.errOf, mg.run]
  rw [e1, e2, e3]
  split at h
  · rename_i h1; exact absurd h h1
  · split at h
    · rename_i h1; exact absurd h h1
    · split at h
      · rename_i h1; exact absurd h h1
      · rename_i g1 g2 g3
        rw [if_neg g1, if_neg g2, if_neg (by simp)]
        unfold cf.rest at h ⊢
        split at h
        · rename_i hl
          rw [if_pos (show cf.LastOk (noms c) from hl)]
        · cases h
theorem noms_set {W : World} {g : Nat} {c : Cf} {p : Cp} (h : W.heap[g]? = some (.cells (cv c p) 34 (0, 0))) : (W.setCell ⟨g, 9, none⟩ (.slice none 0 0)).heap[g]? = some (.cells (cv (noms c) (nomp p)) 34 (0, 0)) := by
  rw [heap_setCell_same W g 9 _ _ (.slice none 0 0) h]
  rfl
theorem noms_mid {c : Cf} {l : List Int} {n : ByteArray} (h : l = nameIds (noms c) c.bf ++ idsOf n ++ nameIds (noms c) c.af) (i : Nat) (hi : i < n.size) : l[c.bf.length + i]? = some (n[i].toNat : Int) := by
  have h2 : i < (idsOf n).length := by rw [idsOf_len]; exact hi
  have h3 := mg.idsOf_at n i hi
  rw [List.getD_eq_getElem?_getD, List.getElem?_eq_getElem h2] at h3
  rw [h, List.append_assoc, List.getElem?_append_right (by simp [nameIds])]
  rw [show c.bf.length + i - (nameIds (noms c) c.bf).length = i by simp [nameIds], List.getElem?_append_left h2, List.getElem?_eq_getElem h2]
  exact congrArg some h3
theorem drop_step {l : List (List Ru)} {i : Nat} (h : i < l.length) : l.drop i = nthP l i :: l.drop (i + 1) := by
  rw [cf.nthP_eq l i h]
  exact List.drop_eq_getElem_cons h
end Go.Proofs.YthmecbonjkcnmaaGreat.tk
