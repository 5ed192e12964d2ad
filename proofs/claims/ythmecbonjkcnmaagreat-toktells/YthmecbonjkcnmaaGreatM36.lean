/-
  Texts put together: Contracts over this program: the ids of a text are one list only; a configuration without what stands ahead and behind. Contracts over this program: without merges the ids of a text are its bytes; a configuration without merges.
-/
import Derived.Test.YthmecbonjkcnmaaGreatM32
namespace Go.Proofs.YthmecbonjkcnmaaGreat.tk
open Go.ChangeShapes Go.WideShapes Go.ChangeAt Go.RowKit
open cf (Cf Cp cv CfAt CBox cfE cbox_new)
open mg (Row In IntsV)
open nb (built Rl Pa EdR)
open wk (Far)
set_option linter.unusedVariables false
set_option maxRecDepth 100000

theorem far_le {R : Rl} {st nd fr a b : Nat} (h : Far R st nd fr a) (k : Far R st nd fr b) : a ≤ b := by
  rcases h.2.1 with e | e
  · rw [e]; exact k.1
  · exact k.2.2 a e
theorem far_one {R : Rl} {st nd fr a b : Nat} (h : Far R st nd fr a) (k : Far R st nd fr b) : a = b := Nat.le_antisymm (far_le h k) (far_le k h)
theorem stop_one {es : List nf.Ed} {s : ByteArray} {fr a b : Nat} (h : StopS es s fr a) (k : StopS es s fr b) : a = b := by
  obtain ⟨l, h1, rfl⟩ := h
  obtain ⟨m, k1, rfl⟩ := k
  rw [far_one h1 k1]
theorem mids_inv {es : List nf.Ed} {s : ByteArray} {K : List mg.Mg} {fr : Nat} {l : List Int} (h : Mids es s K fr l) : (fr = s.size ∧ l = []) ∨ ∃ to ids, fr < to ∧ to ≤ s.size ∧ StopS es s fr to ∧ Mids es s K to ids ∧ l = mg.app K (mg.idsOf (s.extract fr to)) ++ ids := by
  cases h with
  | done => exact .inl ⟨rfl, rfl⟩
  | more h1 h2 h3 h4 => exact .inr ⟨_, _, h1, h2, h3, h4, rfl⟩
theorem mids_one {es : List nf.Ed} {s : ByteArray} {K : List mg.Mg} : ∀ (n fr : Nat) (a b : List Int), s.size ≤ fr + n → Mids es s K fr a → Mids es s K fr b → a = b := by
  intro n
  induction n with
  | zero =>
    intro fr a b hn h k
    rcases mids_inv h with ⟨e, rfl⟩ | ⟨to, ids, g1, g2, _⟩
    · rcases mids_inv k with ⟨e', rfl⟩ | ⟨to', ids', k1, k2, _⟩
      · rfl
      · omega
    · omega
  | succ n ih =>
    intro fr a b hn h k
    rcases mids_inv h with ⟨e, rfl⟩ | ⟨to, ids, g1, g2, g3, g4, rfl⟩
    · rcases mids_inv k with ⟨e', rfl⟩ | ⟨to', ids', k1, k2, _⟩
      · rfl
      · omega
    · rcases mids_inv k with ⟨e', rfl⟩ | ⟨to', ids', k1, k2, k3, k4, rfl⟩
      · omega
      · obtain rfl := stop_one g3 k3
        rw [ih to ids ids' (by omega) g4 k4]

/-- a configuration without what stands ahead and behind -/
def bare (c : Cf) : Cf := { c with bf := [], af := [] }
def barep (p : Cp) : Cp := { p with bo := none, bc := 0, ao := none, ac := 0 }
theorem bare_ok {c : Cf} (h : cfE c = 0) : cfE (bare c) = 0 := by
  rw [cf.cfE_eq] at h ⊢
  have e1 : (bare c).ps = c.ps := rfl
  have e2 : (bare c).t = c.t := rfl
  have e3 : (bare c).ms = c.ms := rfl
  rw [e1, e2, e3]
  split at h
  · rename_i h1; exact absurd h h1
  · split at h
    · rename_i h1; exact absurd h h1
    · split at h
      · rename_i h1; exact absurd h h1
      · rename_i g1 g2 g3
        rw [if_neg g1, if_neg g2, if_neg g3]
        unfold cf.rest at h ⊢
        split at h
        · rename_i hl
          rw [if_pos ⟨hl.1, ⟨by simp [bare], by simp [bare]⟩, ⟨by simp [bare], by simp [bare]⟩⟩]
        · cases h
theorem row_nil {w : World} : Row (In w) w mg.iv none 0 ([] : List Int) := ⟨Nat.le_refl _, by omega, fun i h => by simp at h⟩
theorem bare_at {w : World} {c : Cf} {p : Cp} (h : CfAt w c p) : CfAt w (bare c) (barep p) := ⟨h.ps, h.t, h.ms, h.ns, row_nil, row_nil⟩
/-- a part of a row of numbers -/
theorem ints_part {w : World} {B g cap n i k : Nat} {l : List Int} (h : Ids w B (.slice (some ⟨g, 0, none⟩) n cap) l) (hi : i + k ≤ l.length) : IntsV w (.slice (some ⟨g, i, none⟩) k (cap - i)) ((l.drop i).take k) := by
  rw [← Nat.zero_add i]
  show IntsV w (.slice (some ⟨g, 0 + i, none⟩) k (cap - (0 + i))) ((l.drop (0 + i)).take k)
  rw [show cap - (0 + i) = cap - i by omega, show l.drop (0 + i) = l.drop i by rw [Nat.zero_add]]
  obtain ⟨o, cap', e, h1, h2⟩ := ow.form h
  cases e
  have hl : ((l.drop i).take k).length = k := by simp; omega
  refine ⟨some ⟨g, 0 + i, none⟩, cap - i, by rw [hl], ⟨by rw [hl]; omega, by omega, fun j hj => ?_⟩⟩
  rw [hl] at hj
  obtain ⟨g', cap', e, hg, hc⟩ := ow.cell h (i + j) (by simp; omega)
  cases e
  exact ⟨g, 0 + i, rfl, hg, by rw [Nat.zero_add]; simpa using hc⟩
theorem below_row {n g : Nat} {w W : World} (h : Below n w W) (hg : n ≤ g) (hn : n ≤ w.heap.size) (cs : Array Value) : Below n w (W.setRow g cs) := ⟨h.os, h.tape, h.output, by simpa using h.size, fun k hk => (setRow_other _ _ _ _ (by omega)).trans (h.block k hk)⟩
theorem one34 (c : Cf) (p : Cp) : (cv c p).all (·.oneCell') = true := by simp [cv, Value.oneCell']
theorem below_cell {n g i : Nat} {w W : World} (h : Below n w W) (hg : n ≤ g) (u : Value) : Below n w (W.setCell ⟨g, i, none⟩ u) :=
  ⟨h.os, h.tape, h.output, by have := h.size; simpa [World.setCell] using this, fun k hk => (Below.heap_setCell _ _ _ _ (show k ≠ g by omega)).trans (h.block k hk)⟩
/-- the two stores that take away what stands ahead and behind -/
theorem bare_set {W : World} {g : Nat} {c : Cf} {p : Cp} (h : W.heap[g]? = some (.cells (cv c p) 34 (0, 0))) : (W.setCell ⟨g, 11, none⟩ (.slice none 0 0)).cell? ⟨g, 12, none⟩ = some (.slice p.ao c.af.length p.ac) ∧ (W.setCell ⟨g, 11, none⟩ (.slice none 0 0)).heap[g]? = some (.cells ((cv c p).setIfInBounds 11 (.slice none 0 0)) 34 (0, 0)) ∧ ((W.setCell ⟨g, 11, none⟩ (.slice none 0 0)).setCell ⟨g, 12, none⟩ (.slice none 0 0)).heap[g]? = some (.cells (cv (bare c) (barep p)) 34 (0, 0)) := by
  have h1 := heap_setCell_same W g 11 _ _ (.slice none 0 0) h
  have h2 := heap_setCell_same _ g 12 _ _ (.slice none 0 0) h1
  refine ⟨?_, h1, ?_⟩
  · rw [Lib.cell_of_heap h1]; rfl
  · rw [h2]; rfl
theorem store_conf {ops : Array Oper} {rest : List Oper} {o : Oper} {a : Act} {w1 W3 : World} {Z : Array Value} {Q : Exit → Act → World → Prop} (hgd : o.guard = none) (x y : Operand) (ho : o.op = .store 34 x y) (c : Cf) (p : Cp)
    (hx : a.eval x = .pointer (some ⟨w1.heap.size, 0, none⟩)) (hy : a.eval y = .agg (cv c p)) (hold : Z.size = (cv c p).size) (hW : (w1.alloc (.cells Z 34)).setRow w1.heap.size (cv c p) = W3)
    (h : wpList Tryz.prog ops Q rest (a.put o.dst undef) W3) : wpList Tryz.prog ops Q (o :: rest) a (w1.alloc (.cells Z 34)) := by
  subst hW
  exact wpList_store_row hgd 34 x y ho w1.heap.size (cv c p) hx hy 34 Z (World.alloc_heap_new w1 _) (info34 c p) hold (one34 c p) h
theorem conf_new (w1 : World) (Z : Array Value) (c : Cf) (p : Cp) : ∃ W3, (w1.alloc (.cells Z 34)).setRow w1.heap.size (cv c p) = W3 ∧ W3.heap[w1.heap.size]? = some (.cells (cv c p) 34 (0, 0)) ∧ Below w1.heap.size w1 W3 :=
  ⟨_, rfl, setRow_heap _ _ _ _ _ _ (World.alloc_heap_new w1 _), below_row (below_alloc w1 _) (Nat.le_refl _) (Nat.le_refl _) _⟩
theorem ints_none {w : World} {o : Option Addr} {k : Nat} {l : List Int} (hk : k = 0) (hl : l.length = 0) : IntsV w (.slice o k 0) l := by
  obtain rfl := List.eq_nil_of_length_eq_zero hl
  subst hk
  exact ⟨o, 0, rfl, ⟨Nat.le_refl _, by omega, fun i h => by simp at h⟩⟩
theorem mid_part {c : Cf} {l mid : List Int} (h : l = nameIds c c.bf ++ mid ++ nameIds c c.af) : (l.drop c.bf.length).take mid.length = mid := by
  rw [h, List.append_assoc, List.drop_append_of_le_length (by simp [nameIds]), show (nameIds c c.bf).drop c.bf.length = [] by simp [nameIds]]
  simp
theorem ids_at {W : World} {B g n cap j : Nat} {l : List Int} {x : Int} (h : Ids W B (.slice (some ⟨g, 0, none⟩) n cap) l) (hj : l[j]? = some x) : g < W.heap.size ∧ W.cell? ⟨g, j, none⟩ = some (.int .i64 x) := by
  obtain ⟨hl, he⟩ := List.getElem?_eq_some_iff.1 hj
  obtain ⟨g', cap', e, hg, hc⟩ := ow.cell h j (by simpa using hl)
  cases e
  exact ⟨hg, by rw [hc]; simp [he, zv]⟩
theorem frame_lo {c : Cf} {l mid : List Int} (h : l = nameIds c c.bf ++ mid ++ nameIds c c.af) (i : Nat) (hi : i < c.bf.length) : l[i]? = some (256 + (c.ms.length : Int) + c.bf[i]) := by
  rw [h, List.append_assoc, List.getElem?_append_left (by simpa [nameIds] using hi)]
  simp [nameIds, hi]
theorem frame_hi {c : Cf} {l mid : List Int} (h : l = nameIds c c.bf ++ mid ++ nameIds c c.af) (i : Nat) (hi : i < c.af.length) : l[c.bf.length + mid.length + i]? = some (256 + (c.ms.length : Int) + c.af[i]) := by
  rw [h, List.getElem?_append_right (by simp [nameIds])]
  simp [nameIds, hi]
def z34 : Array Value := #[.slice none 0 0, .int .i64 0, .int .u64 0, .int .u64 0, .int .u64 0, .int .u64 0, .int .i64 0, .int .i64 0, .slice none 0 0, .slice none 0 0, .slice none 0 0, .slice none 0 0, .slice none 0 0]
end Go.Proofs.YthmecbonjkcnmaaGreat.tk

namespace Go.Proofs.YthmecbonjkcnmaaGreat.tk
open Go.ChangeShapes Go.WideShapes Go.ChangeAt Go.RowKit
open ru (Ru Rus apT apE Good)
open cf (Cf Cp cv CfAt CBox cfE cbox_new nthP)
open mg (Row In IntsV idsOf idsOf_len app)
open nb (built)
set_option linter.unusedVariables false
set_option maxRecDepth 100000

theorem mgN_nil : ∀ (n : Nat) (ids : List Int), mg.mgN [] n ids = ids
  | 0, _ => rfl
  | n + 1, ids => by
    unfold mg.mgN
    split
    · rfl
    · rename_i k r h
      exact absurd (mg.nx_some h).2.2.1 (by simp)
theorem app_nil (ids : List Int) : app [] ids = ids := mgN_nil _ _
theorem ids_ext (s : ByteArray) (a b : Nat) : idsOf (s.extract a b) = ((idsOf s).drop a).take (b - a) := by
  simp [idsOf, List.extract_eq_take_drop, List.map_take, List.map_drop]
theorem mids_nil {es : List nf.Ed} {s : ByteArray} : ∀ (n fr : Nat) (l : List Int), s.size ≤ fr + n → Mids es s [] fr l → l = (idsOf s).drop fr := by
  intro n
  induction n with
  | zero =>
    intro fr l hn h
    rcases mids_inv h with ⟨e, rfl⟩ | ⟨to, ids, g1, g2, _⟩
    · rw [List.drop_eq_nil_of_le (by rw [idsOf_len]; omega)]
    · omega
  | succ n ih =>
    intro fr l hn h
    rcases mids_inv h with ⟨e, rfl⟩ | ⟨to, ids, g1, g2, g3, g4, rfl⟩
    · rw [List.drop_eq_nil_of_le (by rw [idsOf_len]; omega)]
    · rw [ih to ids (by omega) g4, app_nil, ids_ext]
      have e : (idsOf s).drop to = ((idsOf s).drop fr).drop (to - fr) := by
        rw [List.drop_drop]
        congr 1
        omega
      rw [e, List.take_append_drop]
def noms (c : Cf) : Cf := { c with ms := [] }
def nomp (p : Cp) : Cp := { p with mo := none, mc := 0 }
theorem noms_ok {c : Cf} (h : cfE c = 0) : cfE (noms c) = 0 := by
  rw [cf.cfE_eq] at h ⊢
  have e1 : (noms c).ps = c.ps := rfl
  have e2 : (noms c).t = c.t := rfl
  have e3 : mg.errOf (noms c).ms = 0 := by simp [noms, mg.errOf, mg.run]
  rw [e1, e2, e3]
  split at h
  · rename_i h1; exact absurd h h1
  · split at h
    · rename_i h1; exact absurd h h1
    · split at h
      · rename_i h1; exact absurd h h1
      · rename_i g1 g2 g3
        rw [if_neg g1, if_neg g2, if_neg (by simp)]
        unfold cf.rest at h ⊢
        split at h
        · rename_i hl
          rw [if_pos (show cf.LastOk (noms c) from hl)]
        · cases h
theorem noms_set {W : World} {g : Nat} {c : Cf} {p : Cp} (h : W.heap[g]? = some (.cells (cv c p) 34 (0, 0))) : (W.setCell ⟨g, 9, none⟩ (.slice none 0 0)).heap[g]? = some (.cells (cv (noms c) (nomp p)) 34 (0, 0)) := by
  rw [heap_setCell_same W g 9 _ _ (.slice none 0 0) h]
  rfl
theorem noms_mid {c : Cf} {l : List Int} {n : ByteArray} (h : l = nameIds (noms c) c.bf ++ idsOf n ++ nameIds (noms c) c.af) (i : Nat) (hi : i < n.size) : l[c.bf.length + i]? = some (n[i].toNat : Int) := by
  have h2 : i < (idsOf n).length := by rw [idsOf_len]; exact hi
  have h3 := mg.idsOf_at n i hi
  rw [List.getD_eq_getElem?_getD, List.getElem?_eq_getElem h2] at h3
  rw [h, List.append_assoc, List.getElem?_append_right (by simp [nameIds])]
  rw [show c.bf.length + i - (nameIds (noms c) c.bf).length = i by simp [nameIds], List.getElem?_append_left h2, List.getElem?_eq_getElem h2]
  exact congrArg some h3
theorem drop_step {l : List (List Ru)} {i : Nat} (h : i < l.length) : l.drop i = nthP l i :: l.drop (i + 1) := by
  rw [cf.nthP_eq l i h]
  exact List.drop_eq_getElem_cons h
end Go.Proofs.YthmecbonjkcnmaaGreat.tk
