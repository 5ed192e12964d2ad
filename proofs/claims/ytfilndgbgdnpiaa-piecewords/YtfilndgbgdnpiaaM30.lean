/-
  Texts put together: Over this program: the rows of edges of a builder that is being made. Over this program: the statements of newBuilder that draw their order. Over this program: a builder is laid.
-/
import Derived.Test.YtfilndgbgdnpiaaKBo
import Derived.Laws.Tables
namespace Go.Proofs.Ytfilndgbgdnpiaa.bd
open Go.Sort Go.ChangeShapes Go.WideShapes Go.ChangeAt Go.RowKit Go.Maps
open df (Kp Row iv In IntsV Owns)
open nf (Nfa Ed Rt EdAt Eds nfaV)
open st (Q4 none4 Fits has nth jn sig Blk)
set_option linter.unusedVariables false
set_option maxRecDepth 10000

def e7 (e : Ed) : List Value := [.int .i64 e.fr, .int .i64 e.to, .bool e.free, .int .u64 e.a, .int .u64 e.b, .int .u64 e.c, .int .u64 e.d]
def c7 : List Ed → List Value
  | [] => []
  | e :: l => e7 e ++ c7 l
theorem c7_snoc (l : List Ed) (e : Ed) : c7 (l ++ [e]) = c7 l ++ e7 e := by
  induction l with
  | nil => simp [c7]
  | cons x l ih => simp [c7, ih]
theorem c7_len (l : List Ed) : (c7 l).length = l.length * 7 := by
  induction l with
  | nil => rfl
  | cons x l ih => simp [c7, e7, ih]; omega
theorem c7_at : ∀ (l : List Ed) (i : Nat) (h : i < l.length) (j : Nat), j < 7 → (c7 l)[i * 7 + j]? = (e7 l[i])[j]?
  | e :: l, 0, _, j, hj => by
    simp only [c7, Nat.zero_mul, Nat.zero_add]
    rw [List.getElem?_append_left (by simpa [e7] using hj)]
    rfl
  | e :: l, i + 1, h, j, hj => by
    simp only [c7]
    rw [List.getElem?_append_right (by simp [e7]; omega)]
    have := c7_at l i (by simpa using h) j hj
    simp only [e7, List.length_cons, List.length_nil] at this ⊢
    rw [show (i + 1) * 7 + j - (0 + 1 + 1 + 1 + 1 + 1 + 1 + 1) = i * 7 + j by omega]
    exact this
/-- a row of edges that is owned reads as one -/
theorem own_edges {X : Nat → Prop} {W : World} {B : Nat} {v : Value} {l : List Ed} (h : W.ownsRow B 68 7 v l.length (c7 l)) (hx : ∀ g, some g = v.ownBlock → X g) : ∃ o c, v = .slice o l.length c ∧ RowE X W o c l := by
  obtain ⟨o, c, e, h1, h2⟩ := ow.form h
  refine ⟨o, c, e, h1, h2, fun i hi => ?_⟩
  have key : ∀ j, j < 7 → ∃ g cap, v = .slice (some ⟨g, 0, none⟩) l.length cap ∧ W.cell? ⟨g, i * 7 + j, none⟩ = (e7 l[i])[j]? := fun j hj => by
    have hl : i * 7 + j < (c7 l).length := by rw [c7_len]; omega
    obtain ⟨g, cap, e1, _, e2⟩ := ow.cell h (i * 7 + j) hl
    exact ⟨g, cap, e1, by rw [e2, ← List.getElem?_eq_getElem hl, c7_at l i hi j hj]⟩
  obtain ⟨g, cap, e1, k0⟩ := key 0 (by omega)
  have all : ∀ j, j < 7 → W.cell? ⟨g, i * 7 + j, none⟩ = (e7 l[i])[j]? := fun j hj => by
    obtain ⟨g', cap', e2, k⟩ := key j hj
    rw [e1] at e2
    simp only [Value.slice.injEq, Option.some.injEq, Addr.mk.injEq] at e2
    rw [e2.1.1]; exact k
  have e3 : o = some ⟨g, 0, none⟩ := by rw [e1] at e; simp only [Value.slice.injEq] at e; exact e.1.symm
  refine ⟨g, 0, e3, hx g (by rw [e1]; rfl), ?_⟩
  rw [Nat.zero_add]
  exact ⟨all 0 (by omega), all 1 (by omega), all 2 (by omega), all 3 (by omega), all 4 (by omega), all 5 (by omega), all 6 (by omega)⟩

structure Nb (B ob fb n : Nat) (Vo Vf : Nat → Value) (Es : Nat → List Ed) (Fs : Nat → List Int) (w : World) : Prop where
  orow : w.heap[ob]? = some (.cells ((List.range n).map Vo).toArray 29 (0, 0))
  frow : w.heap[fb]? = some (.cells ((List.range n).map Vf).toArray 39 (0, 0))
  oo : ∀ s, s < n → w.ownsRow B 68 7 (Vo s) (Es s).length (c7 (Es s))
  ff : ∀ s, s < n → Owns w B (Vf s) (Fs s)
  io : ∀ s t g, s < n → t < n → (Vo s).ownBlock = some g → (Vo t).ownBlock = some g → s = t
  jf : ∀ s t g, s < n → t < n → (Vf s).ownBlock = some g → (Vf t).ownBlock = some g → s = t
  bo : B ≤ ob
  bf : B ≤ fb
def up {α : Type} (f : Nat → α) (i : Nat) (v : α) : Nat → α := fun j => if j = i then v else f j
theorem up_same {α : Type} (f : Nat → α) (i : Nat) (v : α) : up f i v i = v := by simp [up]
theorem up_ne {α : Type} (f : Nat → α) {i j : Nat} (v : α) (h : j ≠ i) : up f i v j = f j := by simp [up, h]
theorem range_up {α : Type} (f : Nat → α) (n i : Nat) (v : α) : ((List.range n).map f).set i v = (List.range n).map (up f i v) := by
  refine List.ext_getElem (by simp) fun j h1 h2 => ?_
  rw [List.getElem_set]
  simp only [List.getElem_map, List.getElem_range]
  by_cases e : i = j
  · rw [if_pos e, e, up_same]
  · rw [if_neg e, up_ne _ _ (fun e2 => e e2.symm)]
section
variable {B ob fb n : Nat} {Vo Vf : Nat → Value} {Es : Nat → List Ed} {Fs : Nat → List Int} {w w' : World}
theorem Nb.olt (h : Nb B ob fb n Vo Vf Es Fs w) : ob < w.heap.size := (Array.getElem?_eq_some_iff.1 h.orow).1
theorem Nb.flt (h : Nb B ob fb n Vo Vf Es Fs w) : fb < w.heap.size := (Array.getElem?_eq_some_iff.1 h.frow).1
theorem Nb.keep (h : Nb B ob fb n Vo Vf Es Fs w) (hk : ∀ g, (g = ob ∨ g = fb ∨ (∃ s, s < n ∧ (Vo s).ownBlock = some g) ∨ ∃ s, s < n ∧ (Vf s).ownBlock = some g) → w'.heap[g]? = w.heap[g]?) : Nb B ob fb n Vo Vf Es Fs w' :=
  ⟨(hk ob (.inl rfl)).trans h.orow, (hk fb (.inr (.inl rfl))).trans h.frow, fun s hs => ow.keep (h.oo s hs) fun g e => hk g (.inr (.inr (.inl ⟨s, hs, e⟩))), fun s hs => ow.keep (h.ff s hs) fun g e => hk g (.inr (.inr (.inr ⟨s, hs, e⟩))), h.io, h.jf, h.bo, h.bf⟩
theorem Nb.lt (h : Nb B ob fb n Vo Vf Es Fs w) {g : Nat} (hg : g = ob ∨ g = fb ∨ (∃ s, s < n ∧ (Vo s).ownBlock = some g) ∨ ∃ s, s < n ∧ (Vf s).ownBlock = some g) : B ≤ g ∧ g < w.heap.size := by
  rcases hg with rfl | rfl | ⟨s, hs, e⟩ | ⟨s, hs, e⟩
  · exact ⟨h.bo, h.olt⟩
  · exact ⟨h.bf, h.flt⟩
  · exact ow.lt (h.oo s hs) e
  · exact ow.lt (h.ff s hs) e
theorem Nb.later (h : Nb B ob fb n Vo Vf Es Fs w) (b : Below w.heap.size w w') : Nb B ob fb n Vo Vf Es Fs w' := h.keep fun g hg => b.block g (h.lt hg).2
/-- no block of type t, other than these four, is touched by them -/
theorem Nb.apart (h : Nb B ob fb n Vo Vf Es Fs w) {g : Nat} {cs : Array Value} {t : TypeId} {fr : Nat × Nat} (hg : w.heap[g]? = some (.cells cs t fr)) (ht : t ≠ 29 ∧ t ≠ 39 ∧ t ≠ 68 ∧ t ≠ 3) : ¬ (g = ob ∨ g = fb ∨ (∃ s, s < n ∧ (Vo s).ownBlock = some g) ∨ ∃ s, s < n ∧ (Vf s).ownBlock = some g) := by
  rintro (rfl | rfl | ⟨s, hs, e⟩ | ⟨s, hs, e⟩)
  · have := h.orow; rw [hg] at this; cases this; exact ht.1 rfl
  · have := h.frow; rw [hg] at this; cases this; exact ht.2.1 rfl
  · exact ow.type (h.oo s hs) hg ht.2.2.1 e.symm
  · exact ow.type (h.ff s hs) hg ht.2.2.2 e.symm
theorem Nb.putF (h : Nb B ob fb n Vo Vf Es Fs w) {s : Nat} (hs : s < n) {t : Int} {g' k' cap' : Nat} (hk : k' = (Fs s).length + 1) (ho : Owns w' B (.slice (some ⟨g', 0, none⟩) k' cap') (Fs s ++ [t])) (hg : w.grownBy w' (Vf s).ownBlock) (hw : some g' = (Vf s).ownBlock ∨ w.heap.size ≤ g') :
    Nb B ob fb n Vo (up Vf s (.slice (some ⟨g', 0, none⟩) k' cap')) Es (up Fs s (Fs s ++ [t])) (w'.setCell ⟨fb, s, none⟩ (.slice (some ⟨g', 0, none⟩) k' cap')) := by
  have n1 : some ob ≠ (Vf s).ownBlock := ow.type (h.ff s hs) h.orow (by decide)
  have n2 : some fb ≠ (Vf s).ownBlock := ow.type (h.ff s hs) h.frow (by decide)
  have o1 := (hg.block ob h.olt n1).trans h.orow
  have f1 := (hg.block fb h.flt n2).trans h.frow
  have hne : ob ≠ fb := fun e => by have a := h.orow; have b := h.frow; rw [e, b] at a; injection a with a; injection a with _ a; exact absurd a (by decide)
  have hh : ∀ j, j ≠ fb → (w'.setCell ⟨fb, s, none⟩ (.slice (some ⟨g', 0, none⟩) k' cap')).heap[j]? = w'.heap[j]? := fun j hj => Below.heap_setCell _ _ _ j hj
  refine ⟨(hh ob hne).trans o1, ?_, fun u hu => ?_, fun u hu => ?_, h.io, ?_, h.bo, h.bf⟩
  · rw [nf.set_heap _ _ _ _ s _ f1, List.setIfInBounds_toArray, range_up]
  · have a1 := ow.keep (W' := w') (h.oo u hu) fun g e => hg.block g (ow.lt (h.oo u hu) e).2 (own_ne (h.oo u hu) (h.ff s hs) (by decide) g e)
    exact ow.keep a1 fun g e => hh g (fun e2 => ow.type a1 f1 (by decide) (by rw [← e2]; exact e.symm))
  · by_cases e : u = s
    · subst e
      rw [up_same, up_same]
      refine ow.keep ?_ fun g e => hh g (fun e2 => ow.type ho f1 (by decide) (by rw [← e2]; exact e.symm))
      exact ho
    · rw [up_ne _ _ e, up_ne _ _ e]
      have a1 := ow.keep (W' := w') (h.ff u hu) fun g e3 => hg.block g (ow.lt (h.ff u hu) e3).2 (fun e4 => e (h.jf u s g hu hs e3 e4.symm))
      exact ow.keep a1 fun g e3 => hh g (fun e2 => ow.type a1 f1 (by decide) (by rw [← e2]; exact e3.symm))
  · intro u v g hu hv e1 e2
    by_cases a : u = s
    · by_cases b : v = s
      · rw [a, b]
      · rw [a, up_same] at e1
        rw [up_ne _ _ b] at e2
        exfalso
        exact new_ne hw (ow.lt (h.ff v hv) e2).2 (fun e3 => b (h.jf v s g hv hs e2 e3.symm)) e1.symm
    · by_cases b : v = s
      · rw [b, up_same] at e2
        rw [up_ne _ _ a] at e1
        exfalso
        exact new_ne hw (ow.lt (h.ff u hu) e1).2 (fun e3 => a (h.jf u s g hu hs e1 e3.symm)) e2.symm
      · rw [up_ne _ _ a] at e1
        rw [up_ne _ _ b] at e2
        exact h.jf u v g hu hv e1 e2
theorem Nb.putO (h : Nb B ob fb n Vo Vf Es Fs w) {s : Nat} (hs : s < n) {y : Ed} {g' k' cap' : Nat} (hk : k' = (Es s).length + 1) (ho : w'.ownsRow B 68 7 (.slice (some ⟨g', 0, none⟩) k' cap') k' (c7 (Es s) ++ e7 y)) (hg : w.grownBy w' (Vo s).ownBlock) (hw : some g' = (Vo s).ownBlock ∨ w.heap.size ≤ g') :
    Nb B ob fb n (up Vo s (.slice (some ⟨g', 0, none⟩) k' cap')) Vf (up Es s (Es s ++ [y])) Fs (w'.setCell ⟨ob, s, none⟩ (.slice (some ⟨g', 0, none⟩) k' cap')) := by
  have n1 : some ob ≠ (Vo s).ownBlock := ow.type (h.oo s hs) h.orow (by decide)
  have n2 : some fb ≠ (Vo s).ownBlock := ow.type (h.oo s hs) h.frow (by decide)
  have o1 := (hg.block ob h.olt n1).trans h.orow
  have f1 := (hg.block fb h.flt n2).trans h.frow
  have hne : ob ≠ fb := fun e => by have a := h.orow; have b := h.frow; rw [e, b] at a; injection a with a; injection a with _ a; exact absurd a (by decide)
  have hh : ∀ j, j ≠ ob → (w'.setCell ⟨ob, s, none⟩ (.slice (some ⟨g', 0, none⟩) k' cap')).heap[j]? = w'.heap[j]? := fun j hj => Below.heap_setCell _ _ _ j hj
  refine ⟨?_, (hh fb (Ne.symm hne)).trans f1, fun u hu => ?_, fun u hu => ?_, ?_, h.jf, h.bo, h.bf⟩
  · rw [nf.set_heap _ _ _ _ s _ o1, List.setIfInBounds_toArray, range_up]
  · by_cases e : u = s
    · subst e
      subst hk
      rw [up_same, up_same, c7_snoc, List.length_append]
      exact ow.keep ho fun g e => hh g (fun e2 => ow.type ho o1 (by decide) (by rw [← e2]; exact e.symm))
    · rw [up_ne _ _ e, up_ne _ _ e]
      have a1 := ow.keep (W' := w') (h.oo u hu) fun g e3 => hg.block g (ow.lt (h.oo u hu) e3).2 (fun e4 => e (h.io u s g hu hs e3 e4.symm))
      exact ow.keep a1 fun g e3 => hh g (fun e2 => ow.type a1 o1 (by decide) (by rw [← e2]; exact e3.symm))
  · have a1 := ow.keep (W' := w') (h.ff u hu) fun g e => hg.block g (ow.lt (h.ff u hu) e).2 (own_ne (h.ff u hu) (h.oo s hs) (by decide) g e)
    exact ow.keep a1 fun g e => hh g (fun e2 => ow.type a1 o1 (by decide) (by rw [← e2]; exact e.symm))
  · intro u v g hu hv e1 e2
    by_cases a : u = s
    · by_cases b : v = s
      · rw [a, b]
      · rw [a, up_same] at e1
        rw [up_ne _ _ b] at e2
        exfalso
        exact new_ne hw (ow.lt (h.oo v hv) e2).2 (fun e3 => b (h.io v s g hv hs e2 e3.symm)) e1.symm
    · by_cases b : v = s
      · rw [b, up_same] at e2
        rw [up_ne _ _ a] at e1
        exfalso
        exact new_ne hw (ow.lt (h.oo u hu) e1).2 (fun e3 => a (h.io u s g hu hs e1 e3.symm)) e2.symm
      · rw [up_ne _ _ a] at e1
        rw [up_ne _ _ b] at e2
        exact h.io u v g hu hv e1 e2
end
end Go.Proofs.Ytfilndgbgdnpiaa.bd

namespace Go.Proofs.Ytfilndgbgdnpiaa.bd
open Go.Sort Go.ChangeShapes Go.WideShapes Go.ChangeAt Go.RowKit Go.Maps
open df (Kp Row iv In IntsV Owns)
open nf (Nfa Ed Rt EdAt Eds nfaV)
open st (Q4 none4 Fits has nth jn sig Blk)
set_option linter.unusedVariables false
set_option maxRecDepth 10000

theorem f77_1 (b : Nat) (w : World) : (Instr.fieldAt 87 (.pointer (some ⟨b, 0, none⟩)) 1).run Try.prog w = .ok (.pointer (some ⟨b, 4, none⟩)) w := by go_simp
theorem f77_2 (b : Nat) (w : World) : (Instr.fieldAt 87 (.pointer (some ⟨b, 0, none⟩)) 2).run Try.prog w = .ok (.pointer (some ⟨b, 5, none⟩)) w := by go_simp
theorem f62_0 (b : Nat) (w : World) : (Instr.fieldAt 68 (.pointer (some ⟨b, 0, none⟩)) 0).run Try.prog w = .ok (.pointer (some ⟨b, 0, none⟩)) w := by go_simp
theorem f24_0 (b : Nat) (w : World) : (Instr.fieldAt 31 (.pointer (some ⟨b, 0, none⟩)) 0).run Try.prog w = .ok (.pointer (some ⟨b, 0, none⟩)) w := by go_simp
theorem info68 : (Try.prog.info? 68).map (fun i => (i.zero, i.size, i.bytes)) = some (some (.agg #[.int .i64 0, .int .i64 0, .bool false, .int .u64 0, .int .u64 0, .int .u64 0, .int .u64 0]), 7, 56) := by kernel_rfl
theorem info29 : (Try.prog.info? 29).map (fun i => (i.zero, i.size, i.bytes)) = some (some (.slice none 0 0), 1, 24) := by kernel_rfl
theorem EBox.c0 {w : World} {p : Nat} {e : Ed} (h : EBox w p e) : w.cell? ⟨p, 0, none⟩ = some (.int .i64 e.fr) := by rw [Lib.cell_of_heap h]; rfl
section
variable {o : Oper} {a : Act} {w : World}
theorem x_load34 {x : Operand} {p : Addr} {v : Value} (h : o.op = .load 49 x) (hx : a.eval x = .pointer (some p)) (hc : w.cell? p = some v) : (execOp a.eval o).run Try.prog w = .ok (.value v) w := by
  unfold execOp; rw [h]; simp only [hx]; go_simp
theorem x_load73 {x : Operand} {p : Addr} {v : Value} (h : o.op = .load 83 x) (hx : a.eval x = .pointer (some p)) (hc : w.cell? p = some v) : (execOp a.eval o).run Try.prog w = .ok (.value v) w := by
  unfold execOp; rw [h]; simp only [hx]; go_simp
theorem x_load25 {x : Operand} {p : Addr} {v : Value} (h : o.op = .load 39 x) (hx : a.eval x = .pointer (some p)) (hc : w.cell? p = some v) : (execOp a.eval o).run Try.prog w = .ok (.value v) w := by
  unfold execOp; rw [h]; simp only [hx]; go_simp
theorem x_load22 {x : Operand} {p : Addr} {v : Value} (h : o.op = .load 29 x) (hx : a.eval x = .pointer (some p)) (hc : w.cell? p = some v) : (execOp a.eval o).run Try.prog w = .ok (.value v) w := by
  unfold execOp; rw [h]; simp only [hx]; go_simp
theorem x_index49 {x y : Operand} {b n cap i : Nat} (h : o.op = .indexAddr 49 x y) (hx : a.eval x = .slice (some ⟨b, 0, none⟩) n cap) (hy : a.eval y = .int .i64 (i : Int)) (hi : i < n) : (execOp a.eval o).run Try.prog w = .ok (.value (.pointer (some ⟨b, i, none⟩))) w := by
  unfold execOp; rw [h]
  obtain ⟨i0, hi0, hz0, hz1, hz2⟩ := info_parts info39
  have hs : (sizeOf 39).run Try.prog w = .ok 1 w := by simp [sizeOf, typeInfo, hi0, hz1, Sem.run_bind]
  have hb : (0 : Int) ≤ (i : Int) ∧ (i : Int) < (n : Int) := by omega
  simp only [Instr.indexAt, hx, hy, asIntOf, Sem.run_bind, Sem.run_pure, Result.andThen_ok, run_underlying Try.underlying49, hb, and_self, if_true, hs, Int.toNat_natCast, Addr.add_mid, Nat.zero_add, Nat.mul_one]
theorem x_index83 {x y : Operand} {b n cap i : Nat} (h : o.op = .indexAddr 83 x y) (hx : a.eval x = .slice (some ⟨b, 0, none⟩) n cap) (hy : a.eval y = .int .i64 (i : Int)) (hi : i < n) : (execOp a.eval o).run Try.prog w = .ok (.value (.pointer (some ⟨b, i, none⟩))) w := by
  unfold execOp; rw [h]
  obtain ⟨i0, hi0, hz0, hz1, hz2⟩ := info_parts info29
  have hs : (sizeOf 29).run Try.prog w = .ok 1 w := by simp [sizeOf, typeInfo, hi0, hz1, Sem.run_bind]
  have hb : (0 : Int) ≤ (i : Int) ∧ (i : Int) < (n : Int) := by omega
  simp only [Instr.indexAt, hx, hy, asIntOf, Sem.run_bind, Sem.run_pure, Result.andThen_ok, run_underlying Try.underlying83, hb, and_self, if_true, hs, Int.toNat_natCast, Addr.add_mid, Nat.zero_add, Nat.mul_one]
theorem x_store25 {x y : Operand} {p : Addr} {u : Value} {g : Option Addr} {n cap : Nat} (h : o.op = .store 39 x y) (hx : a.eval x = .pointer (some p)) (hy : a.eval y = .slice g n cap) (hc : w.cell? p = some u) (hf : w.frozen? p = false) : (execOp a.eval o).run Try.prog w = .ok .skip (w.setCell p (.slice g n cap)) := by
  unfold execOp; rw [h]; simp only [hx, hy]; go_simp
theorem x_store22 {x y : Operand} {p : Addr} {u : Value} {g : Option Addr} {n cap : Nat} (h : o.op = .store 29 x y) (hx : a.eval x = .pointer (some p)) (hy : a.eval y = .slice g n cap) (hc : w.cell? p = some u) (hf : w.frozen? p = false) : (execOp a.eval o).run Try.prog w = .ok .skip (w.setCell p (.slice g n cap)) := by
  unfold execOp; rw [h]; simp only [hx, hy]; go_simp
theorem x_load62 {x : Operand} {p : Nat} {e : Ed} (h : o.op = .load 68 x) (hx : a.eval x = .pointer (some ⟨p, 0, none⟩)) (hb : EBox w p e) : (execOp a.eval o).run Try.prog w = .ok (.value (nf.edV e)) w := by
  have hr : w.rangeAt p 0 (e7 e) := by
    intro j v hv
    rw [Nat.zero_add, Lib.cell_of_heap hb]
    show (e7 e).toArray[j]? = some v
    rw [List.getElem?_toArray]
    exact hv
  unfold execOp; rw [h]
  simp only [hx, Sem.run_bind, run_loadAt_mid (P := Try.prog) w p 0 68 _ _ hr Try.underlying68 rfl (by kernel_rfl), Result.andThen_ok, Sem.run_pure]
  rfl
theorem x_build22 {x : Operand} {e : Ed} (h : o.op = .buildSlice 29 1 #[(0, x)]) (hx : a.eval x = nf.edV e) : (execOp a.eval o).run Try.prog w = .ok (.value (.slice (some ⟨w.heap.size, 0, none⟩) 1 1)) (w.alloc (.cells (e7 e).toArray 68)) := by
  unfold execOp; rw [h]; simp only [List.map_toArray, List.map, hx]; go_simp; rfl
end
theorem new7 (W : World) (e : Ed) : ∀ j u, (e7 e)[j]? = some u → (W.alloc (.cells (e7 e).toArray 68)).cell? ((⟨W.heap.size, 0, none⟩ : Addr).add j) = some u := fun j u hu => by
  have ad : ((⟨W.heap.size, 0, none⟩ : Addr).add j) = ⟨W.heap.size, j, none⟩ := by unfold Addr.add; simp; omega
  rw [ad, Lib.cell_of_heap (World.alloc_heap_new W _), List.getElem?_toArray]
  exact hu
theorem one7 (e : Ed) : ∀ u ∈ e7 e, u.oneCell' = true := fun u hu => by
  simp only [e7, List.mem_cons, List.not_mem_nil, or_false] at hu
  rcases hu with rfl | rfl | rfl | rfl | rfl | rfl | rfl <;> rfl
theorem Nb.fc {B ob fb n : Nat} {Vo Vf : Nat → Value} {Es : Nat → List Ed} {Fs : Nat → List Int} {w : World} (h : Nb B ob fb n Vo Vf Es Fs w) {s : Nat} (hs : s < n) : w.cell? ⟨fb, s, none⟩ = some (Vf s) := by
  rw [Lib.cell_of_heap h.frow, List.getElem?_toArray]; simp [hs]
theorem Nb.oc {B ob fb n : Nat} {Vo Vf : Nat → Value} {Es : Nat → List Ed} {Fs : Nat → List Int} {w : World} (h : Nb B ob fb n Vo Vf Es Fs w) {s : Nat} (hs : s < n) : w.cell? ⟨ob, s, none⟩ = some (Vo s) := by
  rw [Lib.cell_of_heap h.orow, List.getElem?_toArray]; simp [hs]
def ops41_8 : Array Oper := #[
  { dst := some 36, op := Op.move (Operand.tmp 3), type := 81, pos := "build.go:45", after := #[], guard := none },
  { dst := some 37, op := Op.nilCheck (Operand.tmp 36), type := 0, pos := "build.go:45", after := #[{ on := 0, ground := Ground.data }], guard := none },
  { dst := some 38, op := Op.fieldAddr 87 (Operand.tmp 37) 2, type := 0, pos := "build.go:45", after := #[{ on := 1, ground := Ground.data }], guard := none },
  { dst := some 39, op := Op.load 49 (Operand.tmp 38), type := 49, pos := "build.go:45", after := #[{ on := 2, ground := Ground.data }], guard := none },
  { dst := some 40, op := Op.fieldAddr 68 (Operand.tmp 6) 0, type := 0, pos := "build.go:45", after := #[], guard := none },
  { dst := some 41, op := Op.load 3 (Operand.tmp 40), type := 3, pos := "build.go:45", after := #[{ on := 4, ground := Ground.data }], guard := none },
  { dst := some 42, op := Op.move (Operand.tmp 3), type := 81, pos := "build.go:45", after := #[], guard := none },
  { dst := some 43, op := Op.nilCheck (Operand.tmp 42), type := 0, pos := "build.go:45", after := #[{ on := 6, ground := Ground.data }], guard := none },
  { dst := some 44, op := Op.fieldAddr 87 (Operand.tmp 43) 2, type := 0, pos := "build.go:45", after := #[{ on := 7, ground := Ground.data }], guard := none },
  { dst := some 45, op := Op.load 49 (Operand.tmp 44), type := 49, pos := "build.go:45", after := #[{ on := 8, ground := Ground.data }], guard := none },
  { dst := some 46, op := Op.fieldAddr 68 (Operand.tmp 6) 0, type := 0, pos := "build.go:45", after := #[], guard := none },
  { dst := some 47, op := Op.load 3 (Operand.tmp 46), type := 3, pos := "build.go:45", after := #[{ on := 10, ground := Ground.data }], guard := none },
  { dst := some 48, op := Op.indexAddr 49 (Operand.tmp 45) (Operand.tmp 47), type := 0, pos := "build.go:45", after := #[{ on := 9, ground := Ground.data }, { on := 11, ground := Ground.data }], guard := none },
  { dst := some 49, op := Op.load 39 (Operand.tmp 48), type := 39, pos := "build.go:45", after := #[{ on := 12, ground := Ground.data }], guard := none },
  { dst := some 50, op := Op.fieldAddr 68 (Operand.tmp 6) 1, type := 0, pos := "build.go:45", after := #[], guard := none },
  { dst := some 51, op := Op.load 3 (Operand.tmp 50), type := 3, pos := "build.go:45", after := #[{ on := 14, ground := Ground.data }], guard := none },
  { dst := some 52, op := Op.buildSlice 39 1 #[(0, Operand.tmp 51)], type := 39, pos := "build.go:45", after := #[{ on := 15, ground := Ground.data }], guard := none },
  { dst := some 53, op := Op.call { callee := Callee.builtin Builtin.append, args := #[Operand.tmp 49, Operand.tmp 52], argTypes := #[39, 39] }, type := 39, pos := "build.go:45", after := #[{ on := 13, ground := Ground.data }, { on := 16, ground := Ground.data }], guard := none },
  { dst := some 54, op := Op.indexAddr 49 (Operand.tmp 39) (Operand.tmp 41), type := 0, pos := "build.go:45", after := #[{ on := 3, ground := Ground.data }, { on := 5, ground := Ground.data }, { on := 0, ground := Ground.phase }, { on := 1, ground := Ground.phase }, { on := 2, ground := Ground.phase }, { on := 3, ground := Ground.phase }, { on := 4, ground := Ground.phase }, { on := 5, ground := Ground.phase }, { on := 6, ground := Ground.phase }, { on := 7, ground := Ground.phase }, { on := 8, ground := Ground.phase }, { on := 9, ground := Ground.phase }, { on := 10, ground := Ground.phase }, { on := 11, ground := Ground.phase }, { on := 12, ground := Ground.phase }, { on := 13, ground := Ground.phase }, { on := 14, ground := Ground.phase }, { on := 15, ground := Ground.phase }, { on := 16, ground := Ground.phase }, { on := 17, ground := Ground.phase }], guard := none },
  { dst := none, op := Op.store 39 (Operand.tmp 54) (Operand.tmp 53), type := 0, pos := "build.go:45", after := #[{ on := 18, ground := Ground.data }, { on := 17, ground := Ground.data }, { on := 17, ground := Ground.chain }, { on := 0, ground := Ground.phase }, { on := 1, ground := Ground.phase }, { on := 2, ground := Ground.phase }, { on := 3, ground := Ground.phase }, { on := 4, ground := Ground.phase }, { on := 5, ground := Ground.phase }, { on := 6, ground := Ground.phase }, { on := 7, ground := Ground.phase }, { on := 8, ground := Ground.phase }, { on := 9, ground := Ground.phase }, { on := 10, ground := Ground.phase }, { on := 11, ground := Ground.phase }, { on := 12, ground := Ground.phase }, { on := 13, ground := Ground.phase }, { on := 14, ground := Ground.phase }, { on := 15, ground := Ground.phase }, { on := 16, ground := Ground.phase }, { on := 17, ground := Ground.phase }], guard := none }]
structure C41F where
  b : Nat
  r : Nat
  n : Nat
  s : Nat
  p : Nat
  y : Ed
  v : Value
def C41F.fix (c : C41F) (i : Nat) : Option Value := [some (.pointer (some ⟨c.b, 0, none⟩)), some (.pointer (some ⟨c.b, 0, none⟩)), some (.pointer (some ⟨c.b, 5, none⟩)), some (.slice (some ⟨c.r, 0, none⟩) c.n c.n), some (.pointer (some ⟨c.p, 0, none⟩)), some (.int .i64 (c.s : Int)), some (.pointer (some ⟨c.b, 0, none⟩)), some (.pointer (some ⟨c.b, 0, none⟩)), some (.pointer (some ⟨c.b, 5, none⟩)), some (.slice (some ⟨c.r, 0, none⟩) c.n c.n), some (.pointer (some ⟨c.p, 0, none⟩)), some (.int .i64 (c.s : Int)), some (.pointer (some ⟨c.r, c.s, none⟩)), some c.v, some (.pointer (some ⟨c.p, 1, none⟩)), some (.int .i64 c.y.to), none, none, some (.pointer (some ⟨c.r, c.s, none⟩)), none].getD i none
structure W41F (W : World) (B k : Nat) (xs : List Value) (c : C41F) (d : Nat → Prop) (vals : Nat → Value) (w : World) : Prop where
  be : ¬ d 17 → Below W.heap.size W w
  el : d 16 → ¬ d 17 → ∃ g, vals 16 = .slice (some ⟨g, 0, none⟩) 1 1 ∧ g < w.heap.size ∧ ∀ j u, [.int .i64 c.y.to][j]? = some u → w.cell? ((⟨g, 0, none⟩ : Addr).add j) = some u
  ap : d 17 → ¬ d 19 → ∃ g cap w1, vals 17 = .slice (some ⟨g, 0, none⟩) (k + 1) cap ∧ Below W.heap.size W w1 ∧ w.ownsRow B 3 1 (.slice (some ⟨g, 0, none⟩) (k + 1) cap) (k + 1) (xs ++ [.int .i64 c.y.to]) ∧ w1.grownBy w c.v.ownBlock ∧ (some g = c.v.ownBlock ∨ w1.heap.size ≤ g)
  fin : d 19 → ∃ g cap w1 w2, Below W.heap.size W w1 ∧ w2.ownsRow B 3 1 (.slice (some ⟨g, 0, none⟩) (k + 1) cap) (k + 1) (xs ++ [.int .i64 c.y.to]) ∧ w1.grownBy w2 c.v.ownBlock ∧ (some g = c.v.ownBlock ∨ w1.heap.size ≤ g) ∧ w = w2.setCell ⟨c.r, c.s, none⟩ (.slice (some ⟨g, 0, none⟩) (k + 1) cap)
theorem W41F.plain {W : World} {B k : Nat} {xs : List Value} {c : C41F} {d : Nat → Prop} {vals : Nat → Value} {w : World} (q : W41F W B k xs c d vals w) {i : Nat} (h1 : i ≠ 16) (h2 : i ≠ 17) (h3 : i ≠ 19) (v : Value) : W41F W B k xs c (fun j => j = i ∨ d j) (dw.upd vals i v) w :=
  ⟨fun a => q.be fun b => a (.inr b), fun a b => by
    rw [dw.upd_ne _ _ (Ne.symm h1)]
    exact q.el (a.resolve_left (fun e => h1 e.symm)) fun x => b (.inr x), fun a b => by
    rw [dw.upd_ne _ _ (Ne.symm h2)]
    exact q.ap (a.resolve_left (fun e => h2 e.symm)) fun x => b (.inr x), fun a => q.fin (a.resolve_left (fun e => h3 e.symm))⟩
theorem needF_9 (d : Nat → Prop) (hcl : ∀ k j, d k → dw.need ops41_8 k j = true → d j) (x : d 17) : d 9 := hcl 12 9 (hcl 13 12 (hcl 17 13 x (by kernel_rfl)) (by kernel_rfl)) (by kernel_rfl)
theorem needF_11 (d : Nat → Prop) (hcl : ∀ k j, d k → dw.need ops41_8 k j = true → d j) (x : d 17) : d 11 := hcl 12 11 (hcl 13 12 (hcl 17 13 x (by kernel_rfl)) (by kernel_rfl)) (by kernel_rfl)
theorem needF_13 (d : Nat → Prop) (hcl : ∀ k j, d k → dw.need ops41_8 k j = true → d j) (x : d 17) : d 13 := hcl 17 13 x (by kernel_rfl)
theorem needF_15 (d : Nat → Prop) (hcl : ∀ k j, d k → dw.need ops41_8 k j = true → d j) (x : d 17) : d 15 := hcl 16 15 (hcl 17 16 x (by kernel_rfl)) (by kernel_rfl)
set_option maxHeartbeats 1000000 in
theorem reg41_8 {Q : Exit → Act → World → Prop} {a0 : Act} {id : Nat} (hsz : a0.tmps.size = 118) (c : C41F) (e3 : a0.eval (.tmp 3) = .pointer (some ⟨c.b, 0, none⟩)) (e6 : a0.eval (.tmp 6) = .pointer (some ⟨c.p, 0, none⟩)) {W : World} {B kk : Nat} {xs : List Value} (hB : B ≤ W.heap.size) (hlen : kk ≤ 1000000) (hs : c.s < c.n) (hfr : c.y.fr = (c.s : Int)) (hE : EBox W c.p c.y)
    (hE2 : ∀ w1 w, Below W.heap.size W w1 → w1.grownBy w c.v.ownBlock → EBox w c.p c.y)
    (hc : ∀ w, Below W.heap.size W w → w.cell? ⟨c.b, 5, none⟩ = some (.slice (some ⟨c.r, 0, none⟩) c.n c.n))
    (hc2 : ∀ w1 w, Below W.heap.size W w1 → w1.grownBy w c.v.ownBlock → w.cell? ⟨c.b, 5, none⟩ = some (.slice (some ⟨c.r, 0, none⟩) c.n c.n))
    (hr : ∀ w, Below W.heap.size W w → w.cell? ⟨c.r, c.s, none⟩ = some c.v)
    (hown : ∀ w, Below W.heap.size W w → w.ownsRow B 3 1 c.v kk xs)
    (hst : ∀ w1 w, Below W.heap.size W w1 → w1.grownBy w c.v.ownBlock → w.cell? ⟨c.r, c.s, none⟩ = some c.v ∧ w.frozen? ⟨c.r, c.s, none⟩ = false)
    (fin : ∀ vals g cap w1 w2, Below W.heap.size W w1 → w2.ownsRow B 3 1 (.slice (some ⟨g, 0, none⟩) (kk + 1) cap) (kk + 1) (xs ++ [.int .i64 c.y.to]) → w1.grownBy w2 c.v.ownBlock → (some g = c.v.ownBlock ∨ w1.heap.size ≤ g) → Q .normal (dw.fold ops41_8.toList 0 vals a0) (w2.setCell ⟨c.r, c.s, none⟩ (.slice (some ⟨g, 0, none⟩) (kk + 1) cap))) : (Code.region id ops41_8 true).wp Try.prog Q a0 W := by
  refine dw.region (by kernel_rfl) (by rw [hsz]; kernel_rfl) c.fix (W41F W B kk xs c) (fun vals => ⟨fun _ => below_drew W, fun x => x.elim, fun x => x.elim, fun x => x.elim⟩) ?_ ?_
  · intro i hi
    match i, hi with
    | 0, _ => intro d vals a w o ho hn hd hdl hcl hf hx hw K Q' E hk; exact dw.s_val (dw.gd_of ho rfl) ((dw.x_move (dw.op_of ho rfl)).trans (by rw [((hf.base 3 fun i hi => (by decide +kernel : ∀ i, i < ops41_8.size → dw.slot ops41_8 i ≠ some 3) i (hdl i hi)).trans e3)])) (hk _ w (fun u hu => by cases hu; rfl) (hw.plain (by decide) (by decide) (by decide) _))
    | 1, _ => intro d vals a w o ho hn hd hdl hcl hf hx hw K Q' E hk; exact dw.s_val (dw.gd_of ho rfl) (dw.x_nil (dw.op_of ho rfl) ((hf.eval 0 (hd 0 (by kernel_rfl)) (t := 36) rfl).trans (hx 0 (hd 0 (by kernel_rfl)) _ rfl))) (hk _ w (fun u hu => by cases hu; rfl) (hw.plain (by decide) (by decide) (by decide) _))
    | 2, _ => intro d vals a w o ho hn hd hdl hcl hf hx hw K Q' E hk; exact dw.s_val (dw.gd_of ho rfl) (dw.x_field (dw.op_of ho rfl) ((hf.eval 1 (hd 1 (by kernel_rfl)) (t := 37) rfl).trans (hx 1 (hd 1 (by kernel_rfl)) _ rfl)) (f77_2 _ _)) (hk _ w (fun u hu => by cases hu; rfl) (hw.plain (by decide) (by decide) (by decide) _))
    | 3, _ =>
        intro d vals a w o ho hn hd hdl hcl hf hx hw K Q' E hk
        have nS : ¬ d 19 := fun x => hn (hcl 18 3 (hcl 19 18 x (by kernel_rfl)) (by kernel_rfl))
        have hq : w.cell? ⟨c.b, 5, none⟩ = some (.slice (some ⟨c.r, 0, none⟩) c.n c.n) := by
          by_cases dA : d 17
          · obtain ⟨g, cap, w1, e, hb, ho1, hg1, hw1⟩ := hw.ap dA nS
            exact hc2 w1 w hb hg1
          · have hb := hw.be dA
            exact hc w hb
        exact dw.s_val (dw.gd_of ho rfl) (x_load34 (dw.op_of ho rfl) ((hf.eval 2 (hd 2 (by kernel_rfl)) (t := 38) rfl).trans (hx 2 (hd 2 (by kernel_rfl)) _ rfl)) hq) (hk _ w (fun u hu => by cases hu; rfl) (hw.plain (by decide) (by decide) (by decide) _))
    | 4, _ => intro d vals a w o ho hn hd hdl hcl hf hx hw K Q' E hk; exact dw.s_val (dw.gd_of ho rfl) (dw.x_field (dw.op_of ho rfl) ((hf.base 6 fun i hi => (by decide +kernel : ∀ i, i < ops41_8.size → dw.slot ops41_8 i ≠ some 6) i (hdl i hi)).trans e6) (f62_0 _ _)) (hk _ w (fun u hu => by cases hu; rfl) (hw.plain (by decide) (by decide) (by decide) _))
    | 5, _ =>
        intro d vals a w o ho hn hd hdl hcl hf hx hw K Q' E hk
        have nS : ¬ d 19 := fun x => hn (hcl 18 5 (hcl 19 18 x (by kernel_rfl)) (by kernel_rfl))
        have hq : w.cell? ⟨c.p, 0, none⟩ = some (.int .i64 (c.s : Int)) := by
          by_cases dA : d 17
          · obtain ⟨g, cap, w1, e, hb, ho1, hg1, hw1⟩ := hw.ap dA nS
            exact (hE2 w1 w hb hg1).c0.trans (by rw [hfr])
          · have hb := hw.be dA
            exact (hE.later hb).c0.trans (by rw [hfr])
        exact dw.s_val (dw.gd_of ho rfl) (x_load3 (dw.op_of ho rfl) ((hf.eval 4 (hd 4 (by kernel_rfl)) (t := 40) rfl).trans (hx 4 (hd 4 (by kernel_rfl)) _ rfl)) hq) (hk _ w (fun u hu => by cases hu; rfl) (hw.plain (by decide) (by decide) (by decide) _))
    | 6, _ => intro d vals a w o ho hn hd hdl hcl hf hx hw K Q' E hk; exact dw.s_val (dw.gd_of ho rfl) ((dw.x_move (dw.op_of ho rfl)).trans (by rw [((hf.base 3 fun i hi => (by decide +kernel : ∀ i, i < ops41_8.size → dw.slot ops41_8 i ≠ some 3) i (hdl i hi)).trans e3)])) (hk _ w (fun u hu => by cases hu; rfl) (hw.plain (by decide) (by decide) (by decide) _))
    | 7, _ => intro d vals a w o ho hn hd hdl hcl hf hx hw K Q' E hk; exact dw.s_val (dw.gd_of ho rfl) (dw.x_nil (dw.op_of ho rfl) ((hf.eval 6 (hd 6 (by kernel_rfl)) (t := 42) rfl).trans (hx 6 (hd 6 (by kernel_rfl)) _ rfl))) (hk _ w (fun u hu => by cases hu; rfl) (hw.plain (by decide) (by decide) (by decide) _))
    | 8, _ => intro d vals a w o ho hn hd hdl hcl hf hx hw K Q' E hk; exact dw.s_val (dw.gd_of ho rfl) (dw.x_field (dw.op_of ho rfl) ((hf.eval 7 (hd 7 (by kernel_rfl)) (t := 43) rfl).trans (hx 7 (hd 7 (by kernel_rfl)) _ rfl)) (f77_2 _ _)) (hk _ w (fun u hu => by cases hu; rfl) (hw.plain (by decide) (by decide) (by decide) _))
    | 9, _ => intro d vals a w o ho hn hd hdl hcl hf hx hw K Q' E hk; have nA : ¬ d 17 := fun x => hn (needF_9 d hcl x); have hb := hw.be nA; exact dw.s_val (dw.gd_of ho rfl) (x_load34 (dw.op_of ho rfl) ((hf.eval 8 (hd 8 (by kernel_rfl)) (t := 44) rfl).trans (hx 8 (hd 8 (by kernel_rfl)) _ rfl)) (hc w hb)) (hk _ w (fun u hu => by cases hu; rfl) (hw.plain (by decide) (by decide) (by decide) _))
    | 10, _ => intro d vals a w o ho hn hd hdl hcl hf hx hw K Q' E hk; exact dw.s_val (dw.gd_of ho rfl) (dw.x_field (dw.op_of ho rfl) ((hf.base 6 fun i hi => (by decide +kernel : ∀ i, i < ops41_8.size → dw.slot ops41_8 i ≠ some 6) i (hdl i hi)).trans e6) (f62_0 _ _)) (hk _ w (fun u hu => by cases hu; rfl) (hw.plain (by decide) (by decide) (by decide) _))
    | 11, _ => intro d vals a w o ho hn hd hdl hcl hf hx hw K Q' E hk; have nA : ¬ d 17 := fun x => hn (needF_11 d hcl x); have hb := hw.be nA; exact dw.s_val (dw.gd_of ho rfl) (x_load3 (dw.op_of ho rfl) ((hf.eval 10 (hd 10 (by kernel_rfl)) (t := 46) rfl).trans (hx 10 (hd 10 (by kernel_rfl)) _ rfl)) ((hE.later hb).c0.trans (by rw [hfr]))) (hk _ w (fun u hu => by cases hu; rfl) (hw.plain (by decide) (by decide) (by decide) _))
    | 12, _ => intro d vals a w o ho hn hd hdl hcl hf hx hw K Q' E hk; exact dw.s_val (dw.gd_of ho rfl) (x_index49 (dw.op_of ho rfl) ((hf.eval 9 (hd 9 (by kernel_rfl)) (t := 45) rfl).trans (hx 9 (hd 9 (by kernel_rfl)) _ rfl)) ((hf.eval 11 (hd 11 (by kernel_rfl)) (t := 47) rfl).trans (hx 11 (hd 11 (by kernel_rfl)) _ rfl)) hs) (hk _ w (fun u hu => by cases hu; rfl) (hw.plain (by decide) (by decide) (by decide) _))
    | 13, _ => intro d vals a w o ho hn hd hdl hcl hf hx hw K Q' E hk; have nA : ¬ d 17 := fun x => hn (needF_13 d hcl x); have hb := hw.be nA; exact dw.s_val (dw.gd_of ho rfl) (x_load25 (dw.op_of ho rfl) ((hf.eval 12 (hd 12 (by kernel_rfl)) (t := 48) rfl).trans (hx 12 (hd 12 (by kernel_rfl)) _ rfl)) (hr w hb)) (hk _ w (fun u hu => by cases hu; rfl) (hw.plain (by decide) (by decide) (by decide) _))
    | 14, _ => intro d vals a w o ho hn hd hdl hcl hf hx hw K Q' E hk; exact dw.s_val (dw.gd_of ho rfl) (dw.x_field (dw.op_of ho rfl) ((hf.base 6 fun i hi => (by decide +kernel : ∀ i, i < ops41_8.size → dw.slot ops41_8 i ≠ some 6) i (hdl i hi)).trans e6) (f62_1 _ _)) (hk _ w (fun u hu => by cases hu; rfl) (hw.plain (by decide) (by decide) (by decide) _))
    | 15, _ => intro d vals a w o ho hn hd hdl hcl hf hx hw K Q' E hk; have nA : ¬ d 17 := fun x => hn (needF_15 d hcl x); have hb := hw.be nA; exact dw.s_val (dw.gd_of ho rfl) (x_load3 (dw.op_of ho rfl) ((hf.eval 14 (hd 14 (by kernel_rfl)) (t := 50) rfl).trans (hx 14 (hd 14 (by kernel_rfl)) _ rfl)) (hE.later hb).c1) (hk _ w (fun u hu => by cases hu; rfl) (hw.plain (by decide) (by decide) (by decide) _))
    | 16, _ =>
        intro d vals a w o ho hn hd hdl hcl hf hx hw K Q' E hk
        have nA : ¬ d 17 := fun x => hn (hcl 17 16 x (by kernel_rfl))
        have nS : ¬ d 19 := fun x => nA (hcl 19 17 x (by kernel_rfl))
        have hb := hw.be nA
        exact dw.s_val (dw.gd_of ho rfl) (x_build25 (dw.op_of ho rfl) ((hf.eval 15 (hd 15 (by kernel_rfl)) (t := 51) rfl).trans (hx 15 (hd 15 (by kernel_rfl)) _ rfl))) (hk _ _ (fun u hu => by cases hu) ⟨fun _ => hb.alloc hb.size _, fun _ _ => ⟨w.heap.size, by rw [dw.upd_same], by simp, (ow.new1 w _ _)⟩, fun x => absurd (x.resolve_left (by decide)) nA, fun x => absurd (x.resolve_left (by decide)) nS⟩)
    | 17, _ =>
        intro d vals a w o ho hn hd hdl hcl hf hx hw K Q' E hk
        have nS : ¬ d 19 := fun x => hn (hcl 19 17 x (by kernel_rfl))
        have hb := hw.be hn
        obtain ⟨g, e, hg, hh⟩ := hw.el (hd 16 (by kernel_rfl)) hn
        have v13 := ((hf.eval 13 (hd 13 (by kernel_rfl)) (t := 49) rfl).trans (hx 13 (hd 13 (by kernel_rfl)) _ rfl))
        have vb := (hf.eval 16 (hd 16 (by kernel_rfl)) (t := 52) rfl).trans e
        refine ow.step_append (dw.gd_of ho rfl) (.tmp 49) (.tmp 52) 39 (dw.op_of ho rfl) 3 (.int .i64 0) 1 8 Try.underlying39 df.info3 rfl (by decide) (by decide) B c.v kk xs g [.int .i64 c.y.to] v13 vb (hown w hb) rfl hh (ow.one1 _ rfl) hlen (Nat.le_trans hB hb.size) ?_
        intro g8 cap8 w8 hown8 hgr8 hw8
        exact hk _ _ (fun u hu => by cases hu) ⟨fun x => absurd (.inl rfl) x, fun _ x => absurd (.inl rfl) x, fun _ _ => ⟨g8, cap8, w, by rw [dw.upd_same], hb, hown8, hgr8, hw8⟩, fun x => absurd (x.resolve_left (by decide)) nS⟩
    | 18, _ => intro d vals a w o ho hn hd hdl hcl hf hx hw K Q' E hk; exact dw.s_val (dw.gd_of ho rfl) (x_index49 (dw.op_of ho rfl) ((hf.eval 3 (hd 3 (by kernel_rfl)) (t := 39) rfl).trans (hx 3 (hd 3 (by kernel_rfl)) _ rfl)) ((hf.eval 5 (hd 5 (by kernel_rfl)) (t := 41) rfl).trans (hx 5 (hd 5 (by kernel_rfl)) _ rfl)) hs) (hk _ w (fun u hu => by cases hu; rfl) (hw.plain (by decide) (by decide) (by decide) _))
    | 19, _ =>
        intro d vals a w o ho hn hd hdl hcl hf hx hw K Q' E hk
        obtain ⟨g, cap, w1, e, hb, ho1, hg1, hw1⟩ := hw.ap (hd 17 (by kernel_rfl)) hn
        have vx := ((hf.eval 18 (hd 18 (by kernel_rfl)) (t := 54) rfl).trans (hx 18 (hd 18 (by kernel_rfl)) _ rfl))
        have va := (hf.eval 17 (hd 17 (by kernel_rfl)) (t := 53) rfl).trans e
        obtain ⟨c1, z1⟩ := hst w1 w hb hg1
        exact dw.s_skip (dw.gd_of ho rfl) (x_store25 (dw.op_of ho rfl) vx va c1 z1) (hk _ _ (fun u hu => by cases hu) ⟨fun x => absurd (.inr (hd 17 (by kernel_rfl))) x, fun _ x => absurd (.inr (hd 17 (by kernel_rfl))) x, fun _ x => absurd (.inl rfl) x, fun _ => ⟨g, cap, w1, w, hb, ho1, hg1, hw1, rfl⟩⟩)
    | i + 20, hi => exact absurd hi (by simp [ops41_8])
  · intro vals w hx hw
    obtain ⟨g, cap, w1, w2, hb, ho, hg, hn, rfl⟩ := hw.fin (by decide)
    exact fin vals g cap w1 w2 hb ho hg hn
theorem fold41_8 (vals : Nat → Value) (a : Act) : dw.fold ops41_8.toList 0 vals a = (((((((((((((((((((a.put (some 36) (vals 0)).put (some 37) (vals 1)).put (some 38) (vals 2)).put (some 39) (vals 3)).put (some 40) (vals 4)).put (some 41) (vals 5)).put (some 42) (vals 6)).put (some 43) (vals 7)).put (some 44) (vals 8)).put (some 45) (vals 9)).put (some 46) (vals 10)).put (some 47) (vals 11)).put (some 48) (vals 12)).put (some 49) (vals 13)).put (some 50) (vals 14)).put (some 51) (vals 15)).put (some 52) (vals 16)).put (some 53) (vals 17)).put (some 54) (vals 18)) := by
  unfold ops41_8
  simp only [dw.fold, dw.put_none, Nat.zero_add, Nat.reduceAdd]
def ops41_9 : Array Oper := #[
  { dst := some 55, op := Op.move (Operand.tmp 3), type := 81, pos := "build.go:47", after := #[], guard := none },
  { dst := some 56, op := Op.nilCheck (Operand.tmp 55), type := 0, pos := "build.go:47", after := #[{ on := 0, ground := Ground.data }], guard := none },
  { dst := some 57, op := Op.fieldAddr 87 (Operand.tmp 56) 1, type := 0, pos := "build.go:47", after := #[{ on := 1, ground := Ground.data }], guard := none },
  { dst := some 58, op := Op.load 83 (Operand.tmp 57), type := 83, pos := "build.go:47", after := #[{ on := 2, ground := Ground.data }], guard := none },
  { dst := some 59, op := Op.fieldAddr 68 (Operand.tmp 6) 0, type := 0, pos := "build.go:47", after := #[], guard := none },
  { dst := some 60, op := Op.load 3 (Operand.tmp 59), type := 3, pos := "build.go:47", after := #[{ on := 4, ground := Ground.data }], guard := none },
  { dst := some 61, op := Op.move (Operand.tmp 3), type := 81, pos := "build.go:47", after := #[], guard := none },
  { dst := some 62, op := Op.nilCheck (Operand.tmp 61), type := 0, pos := "build.go:47", after := #[{ on := 6, ground := Ground.data }], guard := none },
  { dst := some 63, op := Op.fieldAddr 87 (Operand.tmp 62) 1, type := 0, pos := "build.go:47", after := #[{ on := 7, ground := Ground.data }], guard := none },
  { dst := some 64, op := Op.load 83 (Operand.tmp 63), type := 83, pos := "build.go:47", after := #[{ on := 8, ground := Ground.data }], guard := none },
  { dst := some 65, op := Op.fieldAddr 68 (Operand.tmp 6) 0, type := 0, pos := "build.go:47", after := #[], guard := none },
  { dst := some 66, op := Op.load 3 (Operand.tmp 65), type := 3, pos := "build.go:47", after := #[{ on := 10, ground := Ground.data }], guard := none },
  { dst := some 67, op := Op.indexAddr 83 (Operand.tmp 64) (Operand.tmp 66), type := 0, pos := "build.go:47", after := #[{ on := 9, ground := Ground.data }, { on := 11, ground := Ground.data }], guard := none },
  { dst := some 68, op := Op.load 29 (Operand.tmp 67), type := 29, pos := "build.go:47", after := #[{ on := 12, ground := Ground.data }], guard := none },
  { dst := some 69, op := Op.load 68 (Operand.tmp 6), type := 68, pos := "build.go:47", after := #[], guard := none },
  { dst := some 70, op := Op.buildSlice 29 1 #[(0, Operand.tmp 69)], type := 29, pos := "build.go:47", after := #[{ on := 14, ground := Ground.data }], guard := none },
  { dst := some 71, op := Op.call { callee := Callee.builtin Builtin.append, args := #[Operand.tmp 68, Operand.tmp 70], argTypes := #[29, 29] }, type := 29, pos := "build.go:47", after := #[{ on := 13, ground := Ground.data }, { on := 15, ground := Ground.data }], guard := none },
  { dst := some 72, op := Op.indexAddr 83 (Operand.tmp 58) (Operand.tmp 60), type := 0, pos := "build.go:47", after := #[{ on := 3, ground := Ground.data }, { on := 5, ground := Ground.data }, { on := 0, ground := Ground.phase }, { on := 1, ground := Ground.phase }, { on := 2, ground := Ground.phase }, { on := 3, ground := Ground.phase }, { on := 4, ground := Ground.phase }, { on := 5, ground := Ground.phase }, { on := 6, ground := Ground.phase }, { on := 7, ground := Ground.phase }, { on := 8, ground := Ground.phase }, { on := 9, ground := Ground.phase }, { on := 10, ground := Ground.phase }, { on := 11, ground := Ground.phase }, { on := 12, ground := Ground.phase }, { on := 13, ground := Ground.phase }, { on := 14, ground := Ground.phase }, { on := 15, ground := Ground.phase }, { on := 16, ground := Ground.phase }], guard := none },
  { dst := none, op := Op.store 29 (Operand.tmp 72) (Operand.tmp 71), type := 0, pos := "build.go:47", after := #[{ on := 17, ground := Ground.data }, { on := 16, ground := Ground.data }, { on := 16, ground := Ground.chain }, { on := 0, ground := Ground.phase }, { on := 1, ground := Ground.phase }, { on := 2, ground := Ground.phase }, { on := 3, ground := Ground.phase }, { on := 4, ground := Ground.phase }, { on := 5, ground := Ground.phase }, { on := 6, ground := Ground.phase }, { on := 7, ground := Ground.phase }, { on := 8, ground := Ground.phase }, { on := 9, ground := Ground.phase }, { on := 10, ground := Ground.phase }, { on := 11, ground := Ground.phase }, { on := 12, ground := Ground.phase }, { on := 13, ground := Ground.phase }, { on := 14, ground := Ground.phase }, { on := 15, ground := Ground.phase }, { on := 16, ground := Ground.phase }], guard := none }]
structure C41O where
  b : Nat
  r : Nat
  n : Nat
  s : Nat
  p : Nat
  y : Ed
  v : Value
def C41O.fix (c : C41O) (i : Nat) : Option Value := [some (.pointer (some ⟨c.b, 0, none⟩)), some (.pointer (some ⟨c.b, 0, none⟩)), some (.pointer (some ⟨c.b, 4, none⟩)), some (.slice (some ⟨c.r, 0, none⟩) c.n c.n), some (.pointer (some ⟨c.p, 0, none⟩)), some (.int .i64 (c.s : Int)), some (.pointer (some ⟨c.b, 0, none⟩)), some (.pointer (some ⟨c.b, 0, none⟩)), some (.pointer (some ⟨c.b, 4, none⟩)), some (.slice (some ⟨c.r, 0, none⟩) c.n c.n), some (.pointer (some ⟨c.p, 0, none⟩)), some (.int .i64 (c.s : Int)), some (.pointer (some ⟨c.r, c.s, none⟩)), some c.v, some (nf.edV c.y), none, none, some (.pointer (some ⟨c.r, c.s, none⟩)), none].getD i none
structure W41O (W : World) (B k : Nat) (xs : List Value) (c : C41O) (d : Nat → Prop) (vals : Nat → Value) (w : World) : Prop where
  be : ¬ d 16 → Below W.heap.size W w
  el : d 15 → ¬ d 16 → ∃ g, vals 15 = .slice (some ⟨g, 0, none⟩) 1 1 ∧ g < w.heap.size ∧ ∀ j u, (e7 c.y)[j]? = some u → w.cell? ((⟨g, 0, none⟩ : Addr).add j) = some u
  ap : d 16 → ¬ d 18 → ∃ g cap w1, vals 16 = .slice (some ⟨g, 0, none⟩) (k + 1) cap ∧ Below W.heap.size W w1 ∧ w.ownsRow B 68 7 (.slice (some ⟨g, 0, none⟩) (k + 1) cap) (k + 1) (xs ++ (e7 c.y)) ∧ w1.grownBy w c.v.ownBlock ∧ (some g = c.v.ownBlock ∨ w1.heap.size ≤ g)
  fin : d 18 → ∃ g cap w1 w2, Below W.heap.size W w1 ∧ w2.ownsRow B 68 7 (.slice (some ⟨g, 0, none⟩) (k + 1) cap) (k + 1) (xs ++ (e7 c.y)) ∧ w1.grownBy w2 c.v.ownBlock ∧ (some g = c.v.ownBlock ∨ w1.heap.size ≤ g) ∧ w = w2.setCell ⟨c.r, c.s, none⟩ (.slice (some ⟨g, 0, none⟩) (k + 1) cap)
theorem W41O.plain {W : World} {B k : Nat} {xs : List Value} {c : C41O} {d : Nat → Prop} {vals : Nat → Value} {w : World} (q : W41O W B k xs c d vals w) {i : Nat} (h1 : i ≠ 15) (h2 : i ≠ 16) (h3 : i ≠ 18) (v : Value) : W41O W B k xs c (fun j => j = i ∨ d j) (dw.upd vals i v) w :=
  ⟨fun a => q.be fun b => a (.inr b), fun a b => by
    rw [dw.upd_ne _ _ (Ne.symm h1)]
    exact q.el (a.resolve_left (fun e => h1 e.symm)) fun x => b (.inr x), fun a b => by
    rw [dw.upd_ne _ _ (Ne.symm h2)]
    exact q.ap (a.resolve_left (fun e => h2 e.symm)) fun x => b (.inr x), fun a => q.fin (a.resolve_left (fun e => h3 e.symm))⟩
theorem needO_9 (d : Nat → Prop) (hcl : ∀ k j, d k → dw.need ops41_9 k j = true → d j) (x : d 16) : d 9 := hcl 12 9 (hcl 13 12 (hcl 16 13 x (by kernel_rfl)) (by kernel_rfl)) (by kernel_rfl)
theorem needO_11 (d : Nat → Prop) (hcl : ∀ k j, d k → dw.need ops41_9 k j = true → d j) (x : d 16) : d 11 := hcl 12 11 (hcl 13 12 (hcl 16 13 x (by kernel_rfl)) (by kernel_rfl)) (by kernel_rfl)
theorem needO_13 (d : Nat → Prop) (hcl : ∀ k j, d k → dw.need ops41_9 k j = true → d j) (x : d 16) : d 13 := hcl 16 13 x (by kernel_rfl)
theorem needO_14 (d : Nat → Prop) (hcl : ∀ k j, d k → dw.need ops41_9 k j = true → d j) (x : d 16) : d 14 := hcl 15 14 (hcl 16 15 x (by kernel_rfl)) (by kernel_rfl)
set_option maxHeartbeats 1000000 in
theorem reg41_9 {Q : Exit → Act → World → Prop} {a0 : Act} {id : Nat} (hsz : a0.tmps.size = 118) (c : C41O) (e3 : a0.eval (.tmp 3) = .pointer (some ⟨c.b, 0, none⟩)) (e6 : a0.eval (.tmp 6) = .pointer (some ⟨c.p, 0, none⟩)) {W : World} {B kk : Nat} {xs : List Value} (hB : B ≤ W.heap.size) (hlen : kk ≤ 1000000) (hs : c.s < c.n) (hfr : c.y.fr = (c.s : Int)) (hE : EBox W c.p c.y)
    (hE2 : ∀ w1 w, Below W.heap.size W w1 → w1.grownBy w c.v.ownBlock → EBox w c.p c.y)
    (hc : ∀ w, Below W.heap.size W w → w.cell? ⟨c.b, 4, none⟩ = some (.slice (some ⟨c.r, 0, none⟩) c.n c.n))
    (hc2 : ∀ w1 w, Below W.heap.size W w1 → w1.grownBy w c.v.ownBlock → w.cell? ⟨c.b, 4, none⟩ = some (.slice (some ⟨c.r, 0, none⟩) c.n c.n))
    (hr : ∀ w, Below W.heap.size W w → w.cell? ⟨c.r, c.s, none⟩ = some c.v)
    (hown : ∀ w, Below W.heap.size W w → w.ownsRow B 68 7 c.v kk xs)
    (hst : ∀ w1 w, Below W.heap.size W w1 → w1.grownBy w c.v.ownBlock → w.cell? ⟨c.r, c.s, none⟩ = some c.v ∧ w.frozen? ⟨c.r, c.s, none⟩ = false)
    (fin : ∀ vals g cap w1 w2, Below W.heap.size W w1 → w2.ownsRow B 68 7 (.slice (some ⟨g, 0, none⟩) (kk + 1) cap) (kk + 1) (xs ++ (e7 c.y)) → w1.grownBy w2 c.v.ownBlock → (some g = c.v.ownBlock ∨ w1.heap.size ≤ g) → Q .normal (dw.fold ops41_9.toList 0 vals a0) (w2.setCell ⟨c.r, c.s, none⟩ (.slice (some ⟨g, 0, none⟩) (kk + 1) cap))) : (Code.region id ops41_9 true).wp Try.prog Q a0 W := by
  refine dw.region (by kernel_rfl) (by rw [hsz]; kernel_rfl) c.fix (W41O W B kk xs c) (fun vals => ⟨fun _ => below_drew W, fun x => x.elim, fun x => x.elim, fun x => x.elim⟩) ?_ ?_
  · intro i hi
    match i, hi with
    | 0, _ => intro d vals a w o ho hn hd hdl hcl hf hx hw K Q' E hk; exact dw.s_val (dw.gd_of ho rfl) ((dw.x_move (dw.op_of ho rfl)).trans (by rw [((hf.base 3 fun i hi => (by decide +kernel : ∀ i, i < ops41_9.size → dw.slot ops41_9 i ≠ some 3) i (hdl i hi)).trans e3)])) (hk _ w (fun u hu => by cases hu; rfl) (hw.plain (by decide) (by decide) (by decide) _))
    | 1, _ => intro d vals a w o ho hn hd hdl hcl hf hx hw K Q' E hk; exact dw.s_val (dw.gd_of ho rfl) (dw.x_nil (dw.op_of ho rfl) ((hf.eval 0 (hd 0 (by kernel_rfl)) (t := 55) rfl).trans (hx 0 (hd 0 (by kernel_rfl)) _ rfl))) (hk _ w (fun u hu => by cases hu; rfl) (hw.plain (by decide) (by decide) (by decide) _))
    | 2, _ => intro d vals a w o ho hn hd hdl hcl hf hx hw K Q' E hk; exact dw.s_val (dw.gd_of ho rfl) (dw.x_field (dw.op_of ho rfl) ((hf.eval 1 (hd 1 (by kernel_rfl)) (t := 56) rfl).trans (hx 1 (hd 1 (by kernel_rfl)) _ rfl)) (f77_1 _ _)) (hk _ w (fun u hu => by cases hu; rfl) (hw.plain (by decide) (by decide) (by decide) _))
    | 3, _ =>
        intro d vals a w o ho hn hd hdl hcl hf hx hw K Q' E hk
        have nS : ¬ d 18 := fun x => hn (hcl 17 3 (hcl 18 17 x (by kernel_rfl)) (by kernel_rfl))
        have hq : w.cell? ⟨c.b, 4, none⟩ = some (.slice (some ⟨c.r, 0, none⟩) c.n c.n) := by
          by_cases dA : d 16
          · obtain ⟨g, cap, w1, e, hb, ho1, hg1, hw1⟩ := hw.ap dA nS
            exact hc2 w1 w hb hg1
          · have hb := hw.be dA
            exact hc w hb
        exact dw.s_val (dw.gd_of ho rfl) (x_load73 (dw.op_of ho rfl) ((hf.eval 2 (hd 2 (by kernel_rfl)) (t := 57) rfl).trans (hx 2 (hd 2 (by kernel_rfl)) _ rfl)) hq) (hk _ w (fun u hu => by cases hu; rfl) (hw.plain (by decide) (by decide) (by decide) _))
    | 4, _ => intro d vals a w o ho hn hd hdl hcl hf hx hw K Q' E hk; exact dw.s_val (dw.gd_of ho rfl) (dw.x_field (dw.op_of ho rfl) ((hf.base 6 fun i hi => (by decide +kernel : ∀ i, i < ops41_9.size → dw.slot ops41_9 i ≠ some 6) i (hdl i hi)).trans e6) (f62_0 _ _)) (hk _ w (fun u hu => by cases hu; rfl) (hw.plain (by decide) (by decide) (by decide) _))
    | 5, _ =>
        intro d vals a w o ho hn hd hdl hcl hf hx hw K Q' E hk
        have nS : ¬ d 18 := fun x => hn (hcl 17 5 (hcl 18 17 x (by kernel_rfl)) (by kernel_rfl))
        have hq : w.cell? ⟨c.p, 0, none⟩ = some (.int .i64 (c.s : Int)) := by
          by_cases dA : d 16
          · obtain ⟨g, cap, w1, e, hb, ho1, hg1, hw1⟩ := hw.ap dA nS
            exact (hE2 w1 w hb hg1).c0.trans (by rw [hfr])
          · have hb := hw.be dA
            exact (hE.later hb).c0.trans (by rw [hfr])
        exact dw.s_val (dw.gd_of ho rfl) (x_load3 (dw.op_of ho rfl) ((hf.eval 4 (hd 4 (by kernel_rfl)) (t := 59) rfl).trans (hx 4 (hd 4 (by kernel_rfl)) _ rfl)) hq) (hk _ w (fun u hu => by cases hu; rfl) (hw.plain (by decide) (by decide) (by decide) _))
    | 6, _ => intro d vals a w o ho hn hd hdl hcl hf hx hw K Q' E hk; exact dw.s_val (dw.gd_of ho rfl) ((dw.x_move (dw.op_of ho rfl)).trans (by rw [((hf.base 3 fun i hi => (by decide +kernel : ∀ i, i < ops41_9.size → dw.slot ops41_9 i ≠ some 3) i (hdl i hi)).trans e3)])) (hk _ w (fun u hu => by cases hu; rfl) (hw.plain (by decide) (by decide) (by decide) _))
    | 7, _ => intro d vals a w o ho hn hd hdl hcl hf hx hw K Q' E hk; exact dw.s_val (dw.gd_of ho rfl) (dw.x_nil (dw.op_of ho rfl) ((hf.eval 6 (hd 6 (by kernel_rfl)) (t := 61) rfl).trans (hx 6 (hd 6 (by kernel_rfl)) _ rfl))) (hk _ w (fun u hu => by cases hu; rfl) (hw.plain (by decide) (by decide) (by decide) _))
    | 8, _ => intro d vals a w o ho hn hd hdl hcl hf hx hw K Q' E hk; exact dw.s_val (dw.gd_of ho rfl) (dw.x_field (dw.op_of ho rfl) ((hf.eval 7 (hd 7 (by kernel_rfl)) (t := 62) rfl).trans (hx 7 (hd 7 (by kernel_rfl)) _ rfl)) (f77_1 _ _)) (hk _ w (fun u hu => by cases hu; rfl) (hw.plain (by decide) (by decide) (by decide) _))
    | 9, _ => intro d vals a w o ho hn hd hdl hcl hf hx hw K Q' E hk; have nA : ¬ d 16 := fun x => hn (needO_9 d hcl x); have hb := hw.be nA; exact dw.s_val (dw.gd_of ho rfl) (x_load73 (dw.op_of ho rfl) ((hf.eval 8 (hd 8 (by kernel_rfl)) (t := 63) rfl).trans (hx 8 (hd 8 (by kernel_rfl)) _ rfl)) (hc w hb)) (hk _ w (fun u hu => by cases hu; rfl) (hw.plain (by decide) (by decide) (by decide) _))
    | 10, _ => intro d vals a w o ho hn hd hdl hcl hf hx hw K Q' E hk; exact dw.s_val (dw.gd_of ho rfl) (dw.x_field (dw.op_of ho rfl) ((hf.base 6 fun i hi => (by decide +kernel : ∀ i, i < ops41_9.size → dw.slot ops41_9 i ≠ some 6) i (hdl i hi)).trans e6) (f62_0 _ _)) (hk _ w (fun u hu => by cases hu; rfl) (hw.plain (by decide) (by decide) (by decide) _))
    | 11, _ => intro d vals a w o ho hn hd hdl hcl hf hx hw K Q' E hk; have nA : ¬ d 16 := fun x => hn (needO_11 d hcl x); have hb := hw.be nA; exact dw.s_val (dw.gd_of ho rfl) (x_load3 (dw.op_of ho rfl) ((hf.eval 10 (hd 10 (by kernel_rfl)) (t := 65) rfl).trans (hx 10 (hd 10 (by kernel_rfl)) _ rfl)) ((hE.later hb).c0.trans (by rw [hfr]))) (hk _ w (fun u hu => by cases hu; rfl) (hw.plain (by decide) (by decide) (by decide) _))
    | 12, _ => intro d vals a w o ho hn hd hdl hcl hf hx hw K Q' E hk; exact dw.s_val (dw.gd_of ho rfl) (x_index83 (dw.op_of ho rfl) ((hf.eval 9 (hd 9 (by kernel_rfl)) (t := 64) rfl).trans (hx 9 (hd 9 (by kernel_rfl)) _ rfl)) ((hf.eval 11 (hd 11 (by kernel_rfl)) (t := 66) rfl).trans (hx 11 (hd 11 (by kernel_rfl)) _ rfl)) hs) (hk _ w (fun u hu => by cases hu; rfl) (hw.plain (by decide) (by decide) (by decide) _))
    | 13, _ => intro d vals a w o ho hn hd hdl hcl hf hx hw K Q' E hk; have nA : ¬ d 16 := fun x => hn (needO_13 d hcl x); have hb := hw.be nA; exact dw.s_val (dw.gd_of ho rfl) (x_load22 (dw.op_of ho rfl) ((hf.eval 12 (hd 12 (by kernel_rfl)) (t := 67) rfl).trans (hx 12 (hd 12 (by kernel_rfl)) _ rfl)) (hr w hb)) (hk _ w (fun u hu => by cases hu; rfl) (hw.plain (by decide) (by decide) (by decide) _))
    | 14, _ => intro d vals a w o ho hn hd hdl hcl hf hx hw K Q' E hk; have nA : ¬ d 16 := fun x => hn (needO_14 d hcl x); have hb := hw.be nA; exact dw.s_val (dw.gd_of ho rfl) (x_load62 (dw.op_of ho rfl) ((hf.base 6 fun i hi => (by decide +kernel : ∀ i, i < ops41_9.size → dw.slot ops41_9 i ≠ some 6) i (hdl i hi)).trans e6) (hE.later hb)) (hk _ w (fun u hu => by cases hu; rfl) (hw.plain (by decide) (by decide) (by decide) _))
    | 15, _ =>
        intro d vals a w o ho hn hd hdl hcl hf hx hw K Q' E hk
        have nA : ¬ d 16 := fun x => hn (hcl 16 15 x (by kernel_rfl))
        have nS : ¬ d 18 := fun x => nA (hcl 18 16 x (by kernel_rfl))
        have hb := hw.be nA
        exact dw.s_val (dw.gd_of ho rfl) (x_build22 (dw.op_of ho rfl) ((hf.eval 14 (hd 14 (by kernel_rfl)) (t := 69) rfl).trans (hx 14 (hd 14 (by kernel_rfl)) _ rfl))) (hk _ _ (fun u hu => by cases hu) ⟨fun _ => hb.alloc hb.size _, fun _ _ => ⟨w.heap.size, by rw [dw.upd_same], by simp, (new7 w c.y)⟩, fun x => absurd (x.resolve_left (by decide)) nA, fun x => absurd (x.resolve_left (by decide)) nS⟩)
    | 16, _ =>
        intro d vals a w o ho hn hd hdl hcl hf hx hw K Q' E hk
        have nS : ¬ d 18 := fun x => hn (hcl 18 16 x (by kernel_rfl))
        have hb := hw.be hn
        obtain ⟨g, e, hg, hh⟩ := hw.el (hd 15 (by kernel_rfl)) hn
        have v13 := ((hf.eval 13 (hd 13 (by kernel_rfl)) (t := 68) rfl).trans (hx 13 (hd 13 (by kernel_rfl)) _ rfl))
        have vb := (hf.eval 15 (hd 15 (by kernel_rfl)) (t := 70) rfl).trans e
        refine ow.step_append (dw.gd_of ho rfl) (.tmp 68) (.tmp 70) 29 (dw.op_of ho rfl) 68 (.agg #[.int .i64 0, .int .i64 0, .bool false, .int .u64 0, .int .u64 0, .int .u64 0, .int .u64 0]) 7 56 Try.underlying29 info68 rfl (by decide) (by decide) B c.v kk xs g (e7 c.y) v13 vb (hown w hb) rfl hh (one7 c.y) hlen (Nat.le_trans hB hb.size) ?_
        intro g8 cap8 w8 hown8 hgr8 hw8
        exact hk _ _ (fun u hu => by cases hu) ⟨fun x => absurd (.inl rfl) x, fun _ x => absurd (.inl rfl) x, fun _ _ => ⟨g8, cap8, w, by rw [dw.upd_same], hb, hown8, hgr8, hw8⟩, fun x => absurd (x.resolve_left (by decide)) nS⟩
    | 17, _ => intro d vals a w o ho hn hd hdl hcl hf hx hw K Q' E hk; exact dw.s_val (dw.gd_of ho rfl) (x_index83 (dw.op_of ho rfl) ((hf.eval 3 (hd 3 (by kernel_rfl)) (t := 58) rfl).trans (hx 3 (hd 3 (by kernel_rfl)) _ rfl)) ((hf.eval 5 (hd 5 (by kernel_rfl)) (t := 60) rfl).trans (hx 5 (hd 5 (by kernel_rfl)) _ rfl)) hs) (hk _ w (fun u hu => by cases hu; rfl) (hw.plain (by decide) (by decide) (by decide) _))
    | 18, _ =>
        intro d vals a w o ho hn hd hdl hcl hf hx hw K Q' E hk
        obtain ⟨g, cap, w1, e, hb, ho1, hg1, hw1⟩ := hw.ap (hd 16 (by kernel_rfl)) hn
        have vx := ((hf.eval 17 (hd 17 (by kernel_rfl)) (t := 72) rfl).trans (hx 17 (hd 17 (by kernel_rfl)) _ rfl))
        have va := (hf.eval 16 (hd 16 (by kernel_rfl)) (t := 71) rfl).trans e
        obtain ⟨c1, z1⟩ := hst w1 w hb hg1
        exact dw.s_skip (dw.gd_of ho rfl) (x_store22 (dw.op_of ho rfl) vx va c1 z1) (hk _ _ (fun u hu => by cases hu) ⟨fun x => absurd (.inr (hd 16 (by kernel_rfl))) x, fun _ x => absurd (.inr (hd 16 (by kernel_rfl))) x, fun _ x => absurd (.inl rfl) x, fun _ => ⟨g, cap, w1, w, hb, ho1, hg1, hw1, rfl⟩⟩)
    | i + 19, hi => exact absurd hi (by simp [ops41_9])
  · intro vals w hx hw
    obtain ⟨g, cap, w1, w2, hb, ho, hg, hn, rfl⟩ := hw.fin (by decide)
    exact fin vals g cap w1 w2 hb ho hg hn
theorem fold41_9 (vals : Nat → Value) (a : Act) : dw.fold ops41_9.toList 0 vals a = ((((((((((((((((((a.put (some 55) (vals 0)).put (some 56) (vals 1)).put (some 57) (vals 2)).put (some 58) (vals 3)).put (some 59) (vals 4)).put (some 60) (vals 5)).put (some 61) (vals 6)).put (some 62) (vals 7)).put (some 63) (vals 8)).put (some 64) (vals 9)).put (some 65) (vals 10)).put (some 66) (vals 11)).put (some 67) (vals 12)).put (some 68) (vals 13)).put (some 69) (vals 14)).put (some 70) (vals 15)).put (some 71) (vals 16)).put (some 72) (vals 17)) := by
  unfold ops41_9
  simp only [dw.fold, dw.put_none, Nat.zero_add, Nat.reduceAdd]
end Go.Proofs.Ytfilndgbgdnpiaa.bd

namespace Go.Proofs.Ytfilndgbgdnpiaa.bd
open Go.Sort Go.ChangeShapes Go.WideShapes Go.ChangeAt Go.RowKit Go.Maps
open df (Kp Row iv In IntsV Owns)
open nf (Nfa Ed Rt EdAt Eds nfaV)
open st (Q4 none4 Fits has nth jn sig Blk)
set_option linter.unusedVariables false
set_option maxRecDepth 10000

theorem nils_made (n : Nat) : madeCells #[.slice none 0 0] n = ((List.range n).map fun _ => Value.slice none 0 0).toArray := by
  apply Array.toList_inj.1
  rw [toList_madeCells_one]
  refine List.ext_getElem (by simp) fun i h1 h2 => ?_
  simp
theorem make83 (n : Nat) (hn : n ≤ 1000000) (W : World) : (Instr.makeSlice 83 (.int .i64 (n : Int)) (.int .i64 (n : Int))).run Try.prog W = .ok (.slice (some ⟨W.heap.size, 0, none⟩) n n) (W.alloc (.cells ((List.range n).map fun _ => Value.slice none 0 0).toArray 29)) := by
  rw [← nils_made]
  exact run_make_row' (P := Try.prog) 83 29 (.slice none 0 0) 24 Try.underlying83 info29 rfl .i64 .i64 n (by omega) (by omega) W
theorem make49 (n : Nat) (hn : n ≤ 1000000) (W : World) : (Instr.makeSlice 49 (.int .i64 (n : Int)) (.int .i64 (n : Int))).run Try.prog W = .ok (.slice (some ⟨W.heap.size, 0, none⟩) n n) (W.alloc (.cells ((List.range n).map fun _ => Value.slice none 0 0).toArray 39)) := by
  rw [← nils_made]
  exact run_make_row' (P := Try.prog) 49 39 (.slice none 0 0) 24 Try.underlying49 info39 rfl .i64 .i64 n (by omega) (by omega) W
/-- a builder as it is first laid -/
def hd0 (n s e : Int) (eo : Option Addr) (em ec k ob fb : Nat) : Hd := ⟨n, s, e, eo, em, ec, .slice (some ⟨ob, 0, none⟩) k k, .slice (some ⟨fb, 0, none⟩) k k, .slice none 0 0, List.replicate 256 (.int .u8 0)⟩
def cells0 (n s e : Int) (eo : Option Addr) (em ec k ob fb : Nat) : List Value := (hd0 n s e eo em ec k ob fb).cells (.slice none 0 0) (.map none) (.slice none 0 0) (.slice none 0 0)
theorem built77 (n s e : Int) (eo : Option Addr) (em ec k ob fb : Nat) : Try.prog.built 87 [(0, nfaV n s e eo em ec), (1, .slice (some ⟨ob, 0, none⟩) k k), (2, .slice (some ⟨fb, 0, none⟩) k k)] = some (cells0 n s e eo em ec k ob fb).toArray := by kernel_rfl
section
variable {o : Oper} {a : Act} {w : World}
theorem x_make73 {x y : Operand} {n : Nat} (h : o.op = .makeSlice 83 x y) (hx : a.eval x = .int .i64 (n : Int)) (hy : a.eval y = .int .i64 (n : Int)) (hn : n ≤ 1000000) : (execOp a.eval o).run Try.prog w = .ok (.value (.slice (some ⟨w.heap.size, 0, none⟩) n n)) (w.alloc (.cells ((List.range n).map fun _ => Value.slice none 0 0).toArray 29)) := by
  unfold execOp; rw [h]; simp only [hx, hy, Sem.run_bind, make83 n hn, Result.andThen_ok, Sem.run_pure]
theorem x_make34 {x y : Operand} {n : Nat} (h : o.op = .makeSlice 49 x y) (hx : a.eval x = .int .i64 (n : Int)) (hy : a.eval y = .int .i64 (n : Int)) (hn : n ≤ 1000000) : (execOp a.eval o).run Try.prog w = .ok (.value (.slice (some ⟨w.heap.size, 0, none⟩) n n)) (w.alloc (.cells ((List.range n).map fun _ => Value.slice none 0 0).toArray 39)) := by
  unfold execOp; rw [h]; simp only [hx, hy, Sem.run_bind, make49 n hn, Result.andThen_ok, Sem.run_pure]
theorem x_build77 {x y z : Operand} {n s e : Int} {eo : Option Addr} {em ec k ob fb : Nat} (h : o.op = .build 87 #[(0, x), (1, y), (2, z)]) (hx : a.eval x = nfaV n s e eo em ec) (hy : a.eval y = .slice (some ⟨ob, 0, none⟩) k k) (hz : a.eval z = .slice (some ⟨fb, 0, none⟩) k k) : (execOp a.eval o).run Try.prog w = .ok (.value (.agg (cells0 n s e eo em ec k ob fb).toArray)) w := by
  unfold execOp; rw [h]
  simp only [List.map_toArray, List.map, hx, hy, hz, Sem.run_bind, run_build (P := Try.prog) w 87 #[(0, nfaV n s e eo em ec), (1, .slice (some ⟨ob, 0, none⟩) k k), (2, .slice (some ⟨fb, 0, none⟩) k k)] _ (built77 n s e eo em ec k ob fb), Result.andThen_ok, Sem.run_pure]
theorem x_box77 {x : Operand} {l : List Value} (h : o.op = .box 87 x) (hx : a.eval x = .agg l.toArray) : (execOp a.eval o).run Try.prog w = .ok (.value (.pointer (some ⟨w.heap.size, 0, none⟩))) (w.alloc (.cells l.toArray 87)) := by
  unfold execOp; rw [h]; simp only [hx]; go_simp
theorem x_assign {x : Operand} (h : o.op = .assign x) : (execOp a.eval o).run Try.prog w = .ok (.value (a.eval x)) w := by
  unfold execOp; rw [h]; rfl
end
def ops41_1 : Array Oper := #[
  { dst := some 9, op := Op.load 31 (Operand.tmp 1), type := 31, pos := "build.go:40", after := #[], guard := none },
  { dst := some 10, op := Op.fieldAddr 31 (Operand.tmp 1) 0, type := 0, pos := "build.go:40", after := #[], guard := none },
  { dst := some 11, op := Op.load 3 (Operand.tmp 10), type := 3, pos := "build.go:40", after := #[{ on := 1, ground := Ground.data }], guard := none },
  { dst := some 12, op := Op.makeSlice 83 (Operand.tmp 11) (Operand.tmp 11), type := 83, pos := "build.go:40", after := #[{ on := 2, ground := Ground.data }, { on := 2, ground := Ground.data }], guard := none },
  { dst := some 13, op := Op.fieldAddr 31 (Operand.tmp 1) 0, type := 0, pos := "build.go:40", after := #[], guard := none },
  { dst := some 14, op := Op.load 3 (Operand.tmp 13), type := 3, pos := "build.go:40", after := #[{ on := 4, ground := Ground.data }], guard := none },
  { dst := some 15, op := Op.makeSlice 49 (Operand.tmp 14) (Operand.tmp 14), type := 49, pos := "build.go:40", after := #[{ on := 5, ground := Ground.data }, { on := 5, ground := Ground.data }], guard := none },
  { dst := some 16, op := Op.build 87 #[(0, Operand.tmp 9), (1, Operand.tmp 12), (2, Operand.tmp 15)], type := 87, pos := "build.go:40", after := #[{ on := 0, ground := Ground.data }, { on := 3, ground := Ground.data }, { on := 6, ground := Ground.data }], guard := none },
  { dst := some 17, op := Op.box 87 (Operand.tmp 16), type := 81, pos := "build.go:40", after := #[{ on := 7, ground := Ground.data }], guard := none },
  { dst := some 3, op := Op.assign (Operand.tmp 17), type := 81, pos := "build.go:40", after := #[{ on := 8, ground := Ground.data }, { on := 0, ground := Ground.phase }, { on := 1, ground := Ground.phase }, { on := 2, ground := Ground.phase }, { on := 3, ground := Ground.phase }, { on := 4, ground := Ground.phase }, { on := 5, ground := Ground.phase }, { on := 6, ground := Ground.phase }, { on := 7, ground := Ground.phase }, { on := 8, ground := Ground.phase }], guard := none }]
structure C41 where
  p : Nat
  n : Nat
  s : Int
  e : Int
  eo : Option Addr
  em : Nat
  ec : Nat
def C41.fix (c : C41) (i : Nat) : Option Value := [some (nfaV c.n c.s c.e c.eo c.em c.ec), some (.pointer (some ⟨c.p, 0, none⟩)), some (.int .i64 (c.n : Int)), none, some (.pointer (some ⟨c.p, 0, none⟩)), some (.int .i64 (c.n : Int)), none, none, none, none].getD i none
structure W41 (W : World) (c : C41) (d : Nat → Prop) (vals : Nat → Value) (w : World) : Prop where
  be : Below W.heap.size W w
  ov : d 3 → ∃ ob, vals 3 = .slice (some ⟨ob, 0, none⟩) c.n c.n ∧ W.heap.size ≤ ob ∧ w.heap[ob]? = some (.cells ((List.range c.n).map fun _ => Value.slice none 0 0).toArray 29 (0, 0))
  fv : d 6 → ∃ fb, vals 6 = .slice (some ⟨fb, 0, none⟩) c.n c.n ∧ W.heap.size ≤ fb ∧ w.heap[fb]? = some (.cells ((List.range c.n).map fun _ => Value.slice none 0 0).toArray 39 (0, 0))
  bv : d 7 → ∃ ob fb, vals 3 = .slice (some ⟨ob, 0, none⟩) c.n c.n ∧ vals 6 = .slice (some ⟨fb, 0, none⟩) c.n c.n ∧ vals 7 = .agg (cells0 c.n c.s c.e c.eo c.em c.ec c.n ob fb).toArray
  pv : d 8 → ∃ ob fb b, vals 3 = .slice (some ⟨ob, 0, none⟩) c.n c.n ∧ vals 6 = .slice (some ⟨fb, 0, none⟩) c.n c.n ∧ vals 8 = .pointer (some ⟨b, 0, none⟩) ∧ W.heap.size ≤ b ∧ w.heap[b]? = some (.cells (cells0 c.n c.s c.e c.eo c.em c.ec c.n ob fb).toArray 87 (0, 0))
  av : d 9 → vals 9 = vals 8
theorem W41.plain {W : World} {c : C41} {d : Nat → Prop} {vals : Nat → Value} {w : World} (k : W41 W c d vals w) {i : Nat} (h3 : i ≠ 3) (h6 : i ≠ 6) (h7 : i ≠ 7) (h8 : i ≠ 8) (h9 : i ≠ 9) (v : Value) : W41 W c (fun j => j = i ∨ d j) (dw.upd vals i v) w := by
  have e3 := dw.upd_ne vals v (Ne.symm h3)
  have e6 := dw.upd_ne vals v (Ne.symm h6)
  have e7 := dw.upd_ne vals v (Ne.symm h7)
  have e8 := dw.upd_ne vals v (Ne.symm h8)
  have e9 := dw.upd_ne vals v (Ne.symm h9)
  refine ⟨k.be, fun x => ?_, fun x => ?_, fun x => ?_, fun x => ?_, fun x => ?_⟩
  · rw [e3]; exact k.ov (x.resolve_left (Ne.symm h3))
  · rw [e6]; exact k.fv (x.resolve_left (Ne.symm h6))
  · rw [e3, e6, e7]; exact k.bv (x.resolve_left (Ne.symm h7))
  · rw [e3, e6, e8]; exact k.pv (x.resolve_left (Ne.symm h8))
  · rw [e8, e9]; exact k.av (x.resolve_left (Ne.symm h9))
theorem old_at {w : World} {g : Nat} {x : Obj} (h : w.heap[g]? = some x) (o : Obj) : (w.alloc o).heap[g]? = some x := (Below.heap_alloc _ _ _ (Array.getElem?_eq_some_iff.1 h).1).trans h
set_option maxHeartbeats 1000000 in
theorem reg41_1 {Q : Exit → Act → World → Prop} {a0 : Act} {id : Nat} (hsz : a0.tmps.size = 118) (c : C41) (hnn : c.n ≤ 1000000) (e1 : a0.eval (.tmp 1) = .pointer (some ⟨c.p, 0, none⟩)) {W : World} (hc : ∀ w, Below W.heap.size W w → w.cell? ⟨c.p, 0, none⟩ = some (.int .i64 (c.n : Int)) ∧ w.cell? ⟨c.p, 1, none⟩ = some (.int .i64 c.s) ∧ w.cell? ⟨c.p, 2, none⟩ = some (.int .i64 c.e) ∧ w.cell? ⟨c.p, 3, none⟩ = some (.slice c.eo c.em c.ec))
    (fin : ∀ vals w ob fb b, vals 9 = .pointer (some ⟨b, 0, none⟩) → Below W.heap.size W w → W.heap.size ≤ ob → W.heap.size ≤ fb → W.heap.size ≤ b → w.heap[ob]? = some (.cells ((List.range c.n).map fun _ => Value.slice none 0 0).toArray 29 (0, 0)) → w.heap[fb]? = some (.cells ((List.range c.n).map fun _ => Value.slice none 0 0).toArray 39 (0, 0)) → w.heap[b]? = some (.cells (cells0 c.n c.s c.e c.eo c.em c.ec c.n ob fb).toArray 87 (0, 0)) → Q .normal (dw.fold ops41_1.toList 0 vals a0) w) : (Code.region id ops41_1 true).wp Try.prog Q a0 W := by
  refine dw.region (by kernel_rfl) (by rw [hsz]; kernel_rfl) c.fix (W41 W c) (fun vals => ⟨below_drew W, fun x => x.elim, fun x => x.elim, fun x => x.elim, fun x => x.elim, fun x => x.elim⟩) ?_ ?_
  · intro i hi
    match i, hi with
    | 0, _ => intro d vals a w o ho hn hd hdl hcl hf hx hw K Q' E hk; obtain ⟨q0, q1, q2, q3⟩ := hc w hw.be; exact dw.s_val (dw.gd_of ho rfl) (x_load24 (dw.op_of ho rfl) ((hf.base 1 fun i hi => (by decide +kernel : ∀ i, i < ops41_1.size → dw.slot ops41_1 i ≠ some 1) i (hdl i hi)).trans e1) q0 q1 q2 q3) (hk _ w (fun u hu => by cases hu; rfl) (hw.plain (by decide) (by decide) (by decide) (by decide) (by decide) _))
    | 1, _ => intro d vals a w o ho hn hd hdl hcl hf hx hw K Q' E hk; exact dw.s_val (dw.gd_of ho rfl) (dw.x_field (dw.op_of ho rfl) ((hf.base 1 fun i hi => (by decide +kernel : ∀ i, i < ops41_1.size → dw.slot ops41_1 i ≠ some 1) i (hdl i hi)).trans e1) (f24_0 _ _)) (hk _ w (fun u hu => by cases hu; rfl) (hw.plain (by decide) (by decide) (by decide) (by decide) (by decide) _))
    | 2, _ => intro d vals a w o ho hn hd hdl hcl hf hx hw K Q' E hk; exact dw.s_val (dw.gd_of ho rfl) (x_load3 (dw.op_of ho rfl) ((hf.eval 1 (hd 1 (by kernel_rfl)) (t := 10) rfl).trans (hx 1 (hd 1 (by kernel_rfl)) _ rfl)) (hc w hw.be).1) (hk _ w (fun u hu => by cases hu; rfl) (hw.plain (by decide) (by decide) (by decide) (by decide) (by decide) _))
    | 3, _ =>
        intro d vals a w o ho hn hd hdl hcl hf hx hw K Q' E hk
        have n7 : ¬ d 7 := fun x => hn (hcl 7 3 x (by kernel_rfl))
        have n8 : ¬ d 8 := fun x => n7 (hcl 8 7 x (by kernel_rfl))
        have n9 : ¬ d 9 := fun x => n8 (hcl 9 8 x (by kernel_rfl))
        have vn := ((hf.eval 2 (hd 2 (by kernel_rfl)) (t := 11) rfl).trans (hx 2 (hd 2 (by kernel_rfl)) _ rfl))
        refine dw.s_val (dw.gd_of ho rfl) (x_make73 (dw.op_of ho rfl) vn vn hnn) (hk _ _ (fun u hu => by cases hu) ⟨hw.be.alloc hw.be.size _, ?_, ?_, fun x => absurd (x.resolve_left (by decide)) n7, fun x => absurd (x.resolve_left (by decide)) n8, fun x => absurd (x.resolve_left (by decide)) n9⟩)
        · exact fun _ => ⟨w.heap.size, by rw [dw.upd_same], hw.be.size, World.alloc_heap_new w _⟩
        · exact fun x => by obtain ⟨ob, y1, y2, y3⟩ := hw.fv (x.resolve_left (by decide)); exact ⟨ob, by rw [dw.upd_ne _ _ (by decide)]; exact y1, y2, old_at y3 _⟩
    | 4, _ => intro d vals a w o ho hn hd hdl hcl hf hx hw K Q' E hk; exact dw.s_val (dw.gd_of ho rfl) (dw.x_field (dw.op_of ho rfl) ((hf.base 1 fun i hi => (by decide +kernel : ∀ i, i < ops41_1.size → dw.slot ops41_1 i ≠ some 1) i (hdl i hi)).trans e1) (f24_0 _ _)) (hk _ w (fun u hu => by cases hu; rfl) (hw.plain (by decide) (by decide) (by decide) (by decide) (by decide) _))
    | 5, _ => intro d vals a w o ho hn hd hdl hcl hf hx hw K Q' E hk; exact dw.s_val (dw.gd_of ho rfl) (x_load3 (dw.op_of ho rfl) ((hf.eval 4 (hd 4 (by kernel_rfl)) (t := 13) rfl).trans (hx 4 (hd 4 (by kernel_rfl)) _ rfl)) (hc w hw.be).1) (hk _ w (fun u hu => by cases hu; rfl) (hw.plain (by decide) (by decide) (by decide) (by decide) (by decide) _))
    | 6, _ =>
        intro d vals a w o ho hn hd hdl hcl hf hx hw K Q' E hk
        have n7 : ¬ d 7 := fun x => hn (hcl 7 6 x (by kernel_rfl))
        have n8 : ¬ d 8 := fun x => n7 (hcl 8 7 x (by kernel_rfl))
        have n9 : ¬ d 9 := fun x => n8 (hcl 9 8 x (by kernel_rfl))
        have vn := ((hf.eval 5 (hd 5 (by kernel_rfl)) (t := 14) rfl).trans (hx 5 (hd 5 (by kernel_rfl)) _ rfl))
        refine dw.s_val (dw.gd_of ho rfl) (x_make34 (dw.op_of ho rfl) vn vn hnn) (hk _ _ (fun u hu => by cases hu) ⟨hw.be.alloc hw.be.size _, ?_, ?_, fun x => absurd (x.resolve_left (by decide)) n7, fun x => absurd (x.resolve_left (by decide)) n8, fun x => absurd (x.resolve_left (by decide)) n9⟩)
        · exact fun x => by obtain ⟨ob, y1, y2, y3⟩ := hw.ov (x.resolve_left (by decide)); exact ⟨ob, by rw [dw.upd_ne _ _ (by decide)]; exact y1, y2, old_at y3 _⟩
        · exact fun _ => ⟨w.heap.size, by rw [dw.upd_same], hw.be.size, World.alloc_heap_new w _⟩
    | 7, _ =>
        intro d vals a w o ho hn hd hdl hcl hf hx hw K Q' E hk
        have n8 : ¬ d 8 := fun x => hn (hcl 8 7 x (by kernel_rfl))
        have n9 : ¬ d 9 := fun x => n8 (hcl 9 8 x (by kernel_rfl))
        obtain ⟨ob, y1, y2, y3⟩ := hw.ov (hd 3 (by kernel_rfl))
        obtain ⟨fb, z1, z2, z3⟩ := hw.fv (hd 6 (by kernel_rfl))
        have v0 := ((hf.eval 0 (hd 0 (by kernel_rfl)) (t := 9) rfl).trans (hx 0 (hd 0 (by kernel_rfl)) _ rfl))
        have v3 := (hf.eval 3 (hd 3 (by kernel_rfl)) (t := 12) rfl).trans y1
        have v6 := (hf.eval 6 (hd 6 (by kernel_rfl)) (t := 15) rfl).trans z1
        refine dw.s_val (dw.gd_of ho rfl) (x_build77 (dw.op_of ho rfl) v0 v3 v6) (hk _ _ (fun u hu => by cases hu) ⟨hw.be, ?_, ?_, ?_, fun x => absurd (x.resolve_left (by decide)) n8, fun x => absurd (x.resolve_left (by decide)) n9⟩)
        · exact fun _ => ⟨ob, by rw [dw.upd_ne _ _ (by decide)]; exact y1, y2, y3⟩
        · exact fun _ => ⟨fb, by rw [dw.upd_ne _ _ (by decide)]; exact z1, z2, z3⟩
        · exact fun _ => ⟨ob, fb, by rw [dw.upd_ne _ _ (by decide)]; exact y1, by rw [dw.upd_ne _ _ (by decide)]; exact z1, by rw [dw.upd_same]⟩
    | 8, _ =>
        intro d vals a w o ho hn hd hdl hcl hf hx hw K Q' E hk
        have n9 : ¬ d 9 := fun x => hn (hcl 9 8 x (by kernel_rfl))
        obtain ⟨ob, fb, y1, z1, q1⟩ := hw.bv (hd 7 (by kernel_rfl))
        have d3 := hcl 7 3 (hd 7 (by kernel_rfl)) (by kernel_rfl)
        have d6 := hcl 7 6 (hd 7 (by kernel_rfl)) (by kernel_rfl)
        obtain ⟨ob', y1', y2, y3⟩ := hw.ov d3
        obtain ⟨fb', z1', z2, z3⟩ := hw.fv d6
        have v7 := (hf.eval 7 (hd 7 (by kernel_rfl)) (t := 16) rfl).trans q1
        refine dw.s_val (dw.gd_of ho rfl) (x_box77 (dw.op_of ho rfl) v7) (hk _ _ (fun u hu => by cases hu) ⟨hw.be.alloc hw.be.size _, ?_, ?_, ?_, ?_, fun x => absurd (x.resolve_left (by decide)) n9⟩)
        · exact fun _ => ⟨ob', by rw [dw.upd_ne _ _ (by decide)]; exact y1', y2, old_at y3 _⟩
        · exact fun _ => ⟨fb', by rw [dw.upd_ne _ _ (by decide)]; exact z1', z2, old_at z3 _⟩
        · exact fun _ => ⟨ob, fb, by rw [dw.upd_ne _ _ (by decide)]; exact y1, by rw [dw.upd_ne _ _ (by decide)]; exact z1, by rw [dw.upd_ne _ _ (by decide)]; exact q1⟩
        · exact fun _ => ⟨ob, fb, w.heap.size, by rw [dw.upd_ne _ _ (by decide)]; exact y1, by rw [dw.upd_ne _ _ (by decide)]; exact z1, by rw [dw.upd_same], hw.be.size, World.alloc_heap_new w _⟩
    | 9, _ =>
        intro d vals a w o ho hn hd hdl hcl hf hx hw K Q' E hk
        have d8 := hd 8 (by kernel_rfl)
        have e := hf.eval 8 d8 (t := 17) rfl
        refine dw.s_val (dw.gd_of ho rfl) ((x_assign (dw.op_of ho rfl)).trans (by rw [e])) (hk _ _ (fun u hu => by cases hu) ⟨hw.be, fun x => ?_, fun x => ?_, fun x => ?_, fun x => ?_, fun _ => by rw [dw.upd_same, dw.upd_ne _ _ (by decide)]⟩)
        · rw [dw.upd_ne _ _ (by decide)]; exact hw.ov (x.resolve_left (by decide))
        · rw [dw.upd_ne _ _ (by decide)]; exact hw.fv (x.resolve_left (by decide))
        · rw [dw.upd_ne _ _ (by decide), dw.upd_ne _ _ (by decide), dw.upd_ne _ _ (by decide)]; exact hw.bv (x.resolve_left (by decide))
        · rw [dw.upd_ne _ _ (by decide), dw.upd_ne _ _ (by decide), dw.upd_ne _ _ (by decide)]; exact hw.pv (x.resolve_left (by decide))
    | i + 10, hi => exact absurd hi (by simp [ops41_1])
  · intro vals w hx hw
    obtain ⟨ob, fb, b, y1, z1, q1, q2, q3⟩ := hw.pv (by decide)
    obtain ⟨ob', y1', y2, y3⟩ := hw.ov (by decide)
    obtain ⟨fb', z1', z2, z3⟩ := hw.fv (by decide)
    have e1 : ob' = ob := by rw [y1] at y1'; simp only [Value.slice.injEq, Option.some.injEq, Addr.mk.injEq] at y1'; exact y1'.1.1.symm
    have e2 : fb' = fb := by rw [z1] at z1'; simp only [Value.slice.injEq, Option.some.injEq, Addr.mk.injEq] at z1'; exact z1'.1.1.symm
    subst e1 e2
    exact fin vals w _ _ b ((hw.av (by decide)).trans q1) hw.be y2 z2 q2 y3 z3 q3
theorem fold41_1 (vals : Nat → Value) (a : Act) : dw.fold ops41_1.toList 0 vals a = ((((((((((a.put (some 9) (vals 0)).put (some 10) (vals 1)).put (some 11) (vals 2)).put (some 12) (vals 3)).put (some 13) (vals 4)).put (some 14) (vals 5)).put (some 15) (vals 6)).put (some 16) (vals 7)).put (some 17) (vals 8)).put (some 3) (vals 9)) := by
  unfold ops41_1
  simp only [dw.fold, Nat.zero_add, Nat.reduceAdd]
end Go.Proofs.Ytfilndgbgdnpiaa.bd
