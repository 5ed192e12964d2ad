/-
  Contracts over this program: the least of a dfa (least): the walk through its states, and their classes.
-/
import Derived.Test.YtkdkibnjfgcppaaMs
namespace Go.Proofs.Ytkdkibnjfgcppaa.mi
open Go.ChangeShapes Go.WideShapes Go.ChangeAt Go.RowKit Go.Shelf Go.Maps
set_option linter.unusedVariables false

def z26 : Array Value := (List.replicate 256 (Value.int .u8 0) ++ List.replicate 2 (Value.slice none 0 0)).toArray
theorem z26_size : z26.size = 258 := by unfold z26; rw [List.size_toArray, List.length_append, List.length_replicate, List.length_replicate]
theorem zero26 : ∀ w, (zeroValue 26).run Try.prog w = .ok (.agg z26) w :=
  (zero_of_info (P := Try.prog) (t := 26) (v := .agg z26) (n := 258) (by kernel_rfl)).1
/-- a dfa that is being made: its classes, and what stands for its lists -/
structure DCells (cells : Array Value) (X : List Nat) (nv av : Value) : Prop where
  size : cells.size = 258
  cl : ∀ i, i < 256 → cells[i]? = (X[i]?).map fun n : Nat => Value.int .u8 (n : Int)
  nx : cells[256]? = some nv
  ac : cells[257]? = some av
theorem new_wst {d : df.Dfa} {cs : Array Value} {B : Nat} {w : World} {gw gp gn : Nat} {F : List Nat} {nums : List Int} {sv : Value} (h : New d cs B w gw gp gn F nums sv) (hB : B < w.heap.size) : Wst d cs (B + 1) w w gw gp gn F nums sv (.slice none 0 0) [0] [] := by
  obtain ⟨g, e, g1, g2, g3, g4⟩ := h.one
  refine ⟨h.box, h.parts, h.nrow, h.st, World.ownsRow_nil _ _ _ _, ⟨h.ap.1, h.ap.2.1, h.ap.2.2.1, by have := h.ap.2.2.2; omega, by have := h.ap.2.2.2; omega, by have := h.ap.2.2.2; omega⟩, fun k hk => ?_, (fun k hk => by cases hk), Below.refl _ _, by omega⟩
  rw [e] at hk
  cases hk
  exact ⟨g1, g2, g3, fun e2 => by cases e2⟩
theorem new_go {d : df.Dfa} {cs : Array Value} {B : Nat} {w : World} {gw gp gn : Nat} {F : List Nat} {nums : List Int} {sv : Value} (h : New d cs B w gw gp gn F nums sv) (hn : 1 ≤ d.next.length) : Go_ d F 0 nums [0] [] := by
  refine ⟨rfl, h.num, by simp [lgs], fun x hx => ?_, by simp, fun j hj => by omega⟩
  rw [List.mem_singleton.1 hx]
  omega
theorem go_row {d : df.Dfa} {F : List Nat} {i : Nat} {nums S : List Int} {rows : List (List Int)} (h : Go_ d F i nums S rows) (hd : d.next.length ≤ 1000) : rows.length = i ∧ (∀ r ∈ rows, r.length = 256) ∧ ∀ r ∈ rows, ∀ x ∈ r, -1 ≤ x ∧ x ≤ 1000 := by
  have hw := it_wk _ i h.wk
  have hf := h.few
  rw [h.eq] at hw
  have hl : (lgs d S).length = S.length := by simp [lgs]
  have hr : ∀ r ∈ rows, r.length = 256 ∧ ∀ x ∈ r, -1 ≤ x ∧ x ≤ 1000 := fun r hr => by
    obtain ⟨k, hk, e⟩ := List.mem_iff_getElem.1 hr
    obtain ⟨L, r', e1, e2, e3, e4⟩ := hw.rows k (by have := hw.len; simp at this; omega)
    simp only at e2
    rw [List.getElem?_eq_getElem hk, e] at e2
    obtain rfl := Option.some.inj e2
    refine ⟨e3, fun x hx => ?_⟩
    obtain ⟨b, hb, e5⟩ := List.mem_iff_getElem.1 hx
    obtain ⟨n, e6, e7⟩ := e4 b (by omega)
    rw [List.getElem?_eq_getElem hb, e5] at e6
    obtain rfl := Option.some.inj e6
    rcases e7 with ⟨_, rfl⟩ | ⟨_, j, rfl, hj⟩
    · omega
    · have := (List.getElem?_eq_some_iff.1 hj).1
      simp only at this
      omega
  exact ⟨hw.len, fun r h => (hr r h).1, fun r h => (hr r h).2⟩
theorem owns_at {w : World} {K : Nat} {sv : Value} {S : List Int} (h : df.Owns w K sv S) {i : Nat} (hi : i < S.length) : ∃ g cap, sv = .slice (some ⟨g, 0, none⟩) S.length cap ∧ S.length ≤ cap ∧ cap ≤ 9223372036854775807 ∧ w.cell? ⟨g, i, none⟩ = some (.int .i64 S[i]) := by
  have h0 := h
  rcases h.2 with ⟨_, hl⟩ | ⟨g, cap, cur, e, hb, hg, hn, hc, hs, ht⟩
  · omega
  · subst e
    unfold maxLen at hc
    refine ⟨g, cap, rfl, hn, hc, ?_⟩
    have := World.ownsRow.cellAt h0 i (by omega)
    rw [this, List.getElem?_map, List.getElem?_eq_getElem hi]
    rfl
end Go.Proofs.Ytkdkibnjfgcppaa.mi
