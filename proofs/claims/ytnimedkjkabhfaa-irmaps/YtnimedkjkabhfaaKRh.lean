/-
  Contracts over this program: what a framer does.
-/
import Derived.Test.YtnimedkjkabhfaaKRf
namespace Go.Proofs.Ytnimedkjkabhfaa.ir
open Go.ChangeShapes Go.WideShapes Go.ChangeAt Go.RowKit
open mg (Row In iv IntsV chain below_alloc Mg Mgs app idsOf)
set_option linter.unusedVariables false
set_option maxRecDepth 100000

def Do4 (g : Sg) (l : List Int) (s : ByteArray) (fb : Nat) (vp : Value) (w : World) (e : Ending) (w' : World) : Prop := e = .returned (.int .i64 0) ∧ ∃ v, FBox w' fb s vp v ∧ Ids w' w.heap.size v (g.bf ++ l ++ g.af) ∧ Ch fb w w'
theorem lists3 {W : World} {B : Nat} {v0 v1 v2 : Value} {l0 l1 l2 : List Int} (hB : B = W.heap.size) (h0 : IntsV W v0 l0) (h1 : IntsV W v1 l1) (h2 : IntsV W v2 l2) : Lists (W.alloc (.cells #[v0, v1, v2] 25)) B 3 [l0, l1, l2] := by
  subst hB
  have hb := below_alloc W (.cells #[v0, v1, v2] 25)
  have hx := World.alloc_heap_new W (.cells #[v0, v1, v2] 25)
  refine ⟨rfl, by simp, fun i hi => ?_⟩
  have key : ∀ j u, #[v0, v1, v2][j]? = some u → (W.alloc (.cells #[v0, v1, v2] 25)).cell? ⟨W.heap.size, j, none⟩ = some u := fun j u hj => by rw [cell_of_row _ _ j _ _ _ hx]; exact hj
  match i, hi with
  | 0, _ => exact ⟨v0, key 0 v0 rfl, h0.later hb⟩
  | 1, _ => exact ⟨v1, key 1 v1 rfl, h1.later hb⟩
  | 2, _ => exact ⟨v2, key 2 v2 rfl, h2.later hb⟩
set_option maxHeartbeats 4000000 in
theorem do4 (g : Sg) (p : Sp) (w : World) (h : SgAt w g p) (h1 : g.bf.length ≤ 32) (h2 : g.af.length ≤ 32) (s : ByteArray) (l : List Int) (hl : l.length ≤ 300000) (fb : Nat) (vp vi : Value) (hi : IntsV w vi l) (hf : FBox w fb s vp vi) : Calls Try.prog 110 #[.agg #[p.vb, p.va], .pointer (some ⟨fb, 0, none⟩)] w (Do4 g l s fb vp w) := by
  obtain ⟨o1, c1, e1, _⟩ := h.bf
  obtain ⟨o2, c2, e2, _⟩ := h.af
  obtain ⟨w1, HW1⟩ : ∃ w1, Hid (w1 = w.alloc (.cells #[p.vb, p.va] 72)) := ⟨_, rfl⟩
  have b1 : Below w.heap.size w w1 := by rw [HW1.out]; exact below_alloc w _
  have hx1 : w1.heap[w.heap.size]? = some (.cells #[p.vb, p.va] 72 (0, 0)) := by rw [HW1.out]; exact World.alloc_heap_new w _
  have HB1 := (show Hid (Below w.heap.size w w1) from b1)
  have HF1 := (show Hid (FBox w1 fb s vp vi) from hf.later b1)
  have HL3 := (show Hid (∀ W, Below w1.heap.size w1 W → Lists (W.alloc (.cells #[p.vb, vi, p.va] 25)) W.heap.size 3 [g.bf, l, g.af]) from fun W b => lists3 rfl ((h.bf.later b1).later b) ((hi.later b1).later b) ((h.af.later b1).later b))
  have HC := (show Hid (∀ W, Below w1.heap.size w1 W → Calls Try.prog 112 #[.slice (some ⟨W.heap.size, 0, none⟩) 3 3] (W.alloc (.cells #[p.vb, vi, p.va] 25)) fun e w' => ∃ v, e = .returned v ∧ Ids w' (W.alloc (.cells #[p.vb, vi, p.va] 25)).heap.size v (g.bf ++ l ++ g.af) ∧ Below (W.alloc (.cells #[p.vb, vi, p.va] 25)).heap.size (W.alloc (.cells #[p.vb, vi, p.va] 25)) w') from fun W b => by
    have := concat_any [g.bf, l, g.af] W.heap.size 3 (by omega) (by simp [total]; omega) _ (HL3.out W b)
    simpa using this)
  have q0 : w1.cell? ⟨w.heap.size, 0, none⟩ = some p.vb := by rw [Lib.cell_of_heap hx1]; rfl
  have q1 : w1.cell? ⟨w.heap.size, 1, none⟩ = some p.va := by rw [Lib.cell_of_heap hx1]; rfl
  have hfl := hf.lt
  obtain ⟨o3, c3, e3, _⟩ := hi
  rw [e1] at HW1 HC q0 ⊢
  rw [e2] at HW1 HC q1 ⊢
  rw [e3] at HC HF1
  have u2 := HF1.out.cells.2.2
  have ff := Lib.frozen_of_heap (show w1.heap[fb]? = some (.cells #[.string s, vp, .slice o3 l.length c3] 56 (0, 0)) from HF1.out) 2
  clear h b1 hx1 HL3 e1 e2 e3 hf
  go_enter Try.func110, Try.ntmps110
  go_wp2_with (fail)
  rw [← HW1.out]
  clear HW1
  go_region_with (go_at_call 112; refine (HC.out _ (Below.drew (Below.refl _ _))).mono ?_; rintro e w3 ⟨v, rfl, hI3, b3⟩; obtain ⟨vo, vc, rfl, hv1, hv2⟩ := ow.form hI3; have bx3 := (Below.drew (Below.refl w1.heap.size w1)).trans (mg.chain (mg.below_alloc _ _) b3); have hb3 := HF1.out.later bx3; have u3 := hb3.cells.2.2; have f3 := Lib.frozen_of_heap (show w3.heap[fb]? = some (.cells #[.string s, vp, .slice o3 l.length c3] 56 (0, 0)) from hb3) 2; have HZ := (show Hid (Below w1.heap.size w1 w3 ∧ FBox w3 fb s vp (.slice o3 l.length c3) ∧ Ids w3 (w1.heap.size + 1) (.slice vo (g.bf ++ l ++ g.af).length vc) (g.bf ++ l ++ g.af)) from ⟨bx3, hb3, by simpa using hI3⟩); clear hI3 b3 bx3 hb3)
  all_goals (
    rename_i K9 hK9
    refine hK9 _ _ ?_
    clear hK9 u2 ff u3 f3 q0 q1
    go_wp2_with (fail)
    go_ret
    obtain ⟨z1, z2, z3⟩ := HZ.out
    have hsz : w.heap.size ≤ w1.heap.size := HB1.out.size
    have e : g.bf.length + (l.length + g.af.length) = (g.bf ++ l ++ g.af).length := by simp
    rw [e]
    refine ⟨rfl, _, ?_, pc.base_down (B := w1.heap.size + 1) (ow.keep z3 fun q hq => Below.heap_setCell _ _ _ q (by have := (ow.lt z3 hq).1; show q ≠ fb; omega)) (by omega), (Ch.below (chain HB1.out z1)).trans (Ch.set 2 _)⟩
    show _ = _
    rw [set_heap w3 fb _ _ 2 _ z2]
    rfl)
end Go.Proofs.Ytnimedkjkabhfaa.ir
