/-
  Over this program: the rows of edges of a builder that is being made.
-/
import Derived.Test.YthknhbmibmndoaaKBo
namespace Go.Proofs.Ythknhbmibmndoaa.bd
open Go.Sort Go.ChangeShapes Go.WideShapes Go.ChangeAt Go.RowKit Go.Maps
open df (Kp Row iv In IntsV Owns)
open nf (Nfa Ed Rt EdAt Eds nfaV)
open st (Q4 none4 Fits has nth jn sig Blk)
set_option linter.unusedVariables false
set_option maxRecDepth 10000

def e7 (e : Ed) : List Value := [.int .i64 e.fr, .int .i64 e.to, .bool e.free, .int .u64 e.a, .int .u64 e.b, .int .u64 e.c, .int .u64 e.d]
def c7 : List Ed → List Value
  | [] => []
  | e :: l => e7 e ++ c7 l
theorem c7_snoc (l : List Ed) (e : Ed) : c7 (l ++ [e]) = c7 l ++ e7 e := by
  induction l with
  | nil => simp [c7]
  | cons x l ih => simp [c7, ih]
theorem c7_len (l : List Ed) : (c7 l).length = l.length * 7 := by
  induction l with
  | nil => rfl
  | cons x l ih => simp [c7, e7, ih]; omega
theorem c7_at : ∀ (l : List Ed) (i : Nat) (h : i < l.length) (j : Nat), j < 7 → (c7 l)[i * 7 + j]? = (e7 l[i])[j]?
  | e :: l, 0, _, j, hj => by
    simp only [c7, Nat.zero_mul, Nat.zero_add]
    rw [List.getElem?_append_left (by simpa [e7] using hj)]
    rfl
  | e :: l, i + 1, h, j, hj => by
    simp only [c7]
    rw [List.getElem?_append_right (by simp [e7]; omega)]
    have := c7_at l i (by simpa using h) j hj
    simp only [e7, List.length_cons, List.length_nil] at this ⊢
    rw [show (i + 1) * 7 + j - (0 + 1 + 1 + 1 + 1 + 1 + 1 + 1) = i * 7 + j by omega]
    exact this
/-- a row of edges that is owned reads as one -/
theorem own_edges {X : Nat → Prop} {W : World} {B : Nat} {v : Value} {l : List Ed} (h : W.ownsRow B 62 7 v l.length (c7 l)) (hx : ∀ g, some g = v.ownBlock → X g) : ∃ o c, v = .slice o l.length c ∧ RowE X W o c l := by
  obtain ⟨o, c, e, h1, h2⟩ := ow.form h
  refine ⟨o, c, e, h1, h2, fun i hi => ?_⟩
  have key : ∀ j, j < 7 → ∃ g cap, v = .slice (some ⟨g, 0, none⟩) l.length cap ∧ W.cell? ⟨g, i * 7 + j, none⟩ = (e7 l[i])[j]? := fun j hj => by
    have hl : i * 7 + j < (c7 l).length := by rw [c7_len]; omega
    obtain ⟨g, cap, e1, _, e2⟩ := ow.cell h (i * 7 + j) hl
    exact ⟨g, cap, e1, by rw [e2, ← List.getElem?_eq_getElem hl, c7_at l i hi j hj]⟩
  obtain ⟨g, cap, e1, k0⟩ := key 0 (by omega)
  have all : ∀ j, j < 7 → W.cell? ⟨g, i * 7 + j, none⟩ = (e7 l[i])[j]? := fun j hj => by
    obtain ⟨g', cap', e2, k⟩ := key j hj
    rw [e1] at e2
    simp only [Value.slice.injEq, Option.some.injEq, Addr.mk.injEq] at e2
    rw [e2.1.1]; exact k
  have e3 : o = some ⟨g, 0, none⟩ := by rw [e1] at e; simp only [Value.slice.injEq] at e; exact e.1.symm
  refine ⟨g, 0, e3, hx g (by rw [e1]; rfl), ?_⟩
  rw [Nat.zero_add]
  exact ⟨all 0 (by omega), all 1 (by omega), all 2 (by omega), all 3 (by omega), all 4 (by omega), all 5 (by omega), all 6 (by omega)⟩

structure Nb (B ob fb n : Nat) (Vo Vf : Nat → Value) (Es : Nat → List Ed) (Fs : Nat → List Int) (w : World) : Prop where
  orow : w.heap[ob]? = some (.cells ((List.range n).map Vo).toArray 22 (0, 0))
  frow : w.heap[fb]? = some (.cells ((List.range n).map Vf).toArray 25 (0, 0))
  oo : ∀ s, s < n → w.ownsRow B 62 7 (Vo s) (Es s).length (c7 (Es s))
  ff : ∀ s, s < n → Owns w B (Vf s) (Fs s)
  io : ∀ s t g, s < n → t < n → (Vo s).ownBlock = some g → (Vo t).ownBlock = some g → s = t
  jf : ∀ s t g, s < n → t < n → (Vf s).ownBlock = some g → (Vf t).ownBlock = some g → s = t
  bo : B ≤ ob
  bf : B ≤ fb
def up {α : Type} (f : Nat → α) (i : Nat) (v : α) : Nat → α := fun j => if j = i then v else f j
theorem up_same {α : Type} (f : Nat → α) (i : Nat) (v : α) : up f i v i = v := by simp [up]
theorem up_ne {α : Type} (f : Nat → α) {i j : Nat} (v : α) (h : j ≠ i) : up f i v j = f j := by simp [up, h]
theorem range_up {α : Type} (f : Nat → α) (n i : Nat) (v : α) : ((List.range n).map f).set i v = (List.range n).map (up f i v) := by
  refine List.ext_getElem (by simp) fun j h1 h2 => ?_
  rw [List.getElem_set]
  simp only [List.getElem_map, List.getElem_range]
  by_cases e : i = j
  · rw [if_pos e, e, up_same]
  · rw [if_neg e, up_ne _ _ (fun e2 => e e2.symm)]
section
variable {B ob fb n : Nat} {Vo Vf : Nat → Value} {Es : Nat → List Ed} {Fs : Nat → List Int} {w w' : World}
theorem Nb.olt (h : Nb B ob fb n Vo Vf Es Fs w) : ob < w.heap.size := (Array.getElem?_eq_some_iff.1 h.orow).1
theorem Nb.flt (h : Nb B ob fb n Vo Vf Es Fs w) : fb < w.heap.size := (Array.getElem?_eq_some_iff.1 h.frow).1
theorem Nb.keep (h : Nb B ob fb n Vo Vf Es Fs w) (hk : ∀ g, (g = ob ∨ g = fb ∨ (∃ s, s < n ∧ (Vo s).ownBlock = some g) ∨ ∃ s, s < n ∧ (Vf s).ownBlock = some g) → w'.heap[g]? = w.heap[g]?) : Nb B ob fb n Vo Vf Es Fs w' :=
  ⟨(hk ob (.inl rfl)).trans h.orow, (hk fb (.inr (.inl rfl))).trans h.frow, fun s hs => ow.keep (h.oo s hs) fun g e => hk g (.inr (.inr (.inl ⟨s, hs, e⟩))), fun s hs => ow.keep (h.ff s hs) fun g e => hk g (.inr (.inr (.inr ⟨s, hs, e⟩))), h.io, h.jf, h.bo, h.bf⟩
theorem Nb.lt (h : Nb B ob fb n Vo Vf Es Fs w) {g : Nat} (hg : g = ob ∨ g = fb ∨ (∃ s, s < n ∧ (Vo s).ownBlock = some g) ∨ ∃ s, s < n ∧ (Vf s).ownBlock = some g) : B ≤ g ∧ g < w.heap.size := by
  rcases hg with rfl | rfl | ⟨s, hs, e⟩ | ⟨s, hs, e⟩
  · exact ⟨h.bo, h.olt⟩
  · exact ⟨h.bf, h.flt⟩
  · exact ow.lt (h.oo s hs) e
  · exact ow.lt (h.ff s hs) e
theorem Nb.later (h : Nb B ob fb n Vo Vf Es Fs w) (b : Below w.heap.size w w') : Nb B ob fb n Vo Vf Es Fs w' := h.keep fun g hg => b.block g (h.lt hg).2
/-- no block of type t, other than these four, is touched by them -/
theorem Nb.apart (h : Nb B ob fb n Vo Vf Es Fs w) {g : Nat} {cs : Array Value} {t : TypeId} {fr : Nat × Nat} (hg : w.heap[g]? = some (.cells cs t fr)) (ht : t ≠ 22 ∧ t ≠ 25 ∧ t ≠ 62 ∧ t ≠ 3) : ¬ (g = ob ∨ g = fb ∨ (∃ s, s < n ∧ (Vo s).ownBlock = some g) ∨ ∃ s, s < n ∧ (Vf s).ownBlock = some g) := by
  rintro (rfl | rfl | ⟨s, hs, e⟩ | ⟨s, hs, e⟩)
  · have := h.orow; rw [hg] at this; cases this; exact ht.1 rfl
  · have := h.frow; rw [hg] at this; cases this; exact ht.2.1 rfl
  · exact ow.type (h.oo s hs) hg ht.2.2.1 e.symm
  · exact ow.type (h.ff s hs) hg ht.2.2.2 e.symm
theorem Nb.putF (h : Nb B ob fb n Vo Vf Es Fs w) {s : Nat} (hs : s < n) {t : Int} {g' k' cap' : Nat} (hk : k' = (Fs s).length + 1) (ho : Owns w' B (.slice (some ⟨g', 0, none⟩) k' cap') (Fs s ++ [t])) (hg : w.grownBy w' (Vf s).ownBlock) (hw : some g' = (Vf s).ownBlock ∨ w.heap.size ≤ g') :
    Nb B ob fb n Vo (up Vf s (.slice (some ⟨g', 0, none⟩) k' cap')) Es (up Fs s (Fs s ++ [t])) (w'.setCell ⟨fb, s, none⟩ (.slice (some ⟨g', 0, none⟩) k' cap')) := by
  have n1 : some ob ≠ (Vf s).ownBlock := ow.type (h.ff s hs) h.orow (by decide)
  have n2 : some fb ≠ (Vf s).ownBlock := ow.type (h.ff s hs) h.frow (by decide)
  have o1 := (hg.block ob h.olt n1).trans h.orow
  have f1 := (hg.block fb h.flt n2).trans h.frow
  have hne : ob ≠ fb := fun e => by have a := h.orow; have b := h.frow; rw [e, b] at a; injection a with a; injection a with _ a; exact absurd a (by decide)
  have hh : ∀ j, j ≠ fb → (w'.setCell ⟨fb, s, none⟩ (.slice (some ⟨g', 0, none⟩) k' cap')).heap[j]? = w'.heap[j]? := fun j hj => Below.heap_setCell _ _ _ j hj
  refine ⟨(hh ob hne).trans o1, ?_, fun u hu => ?_, fun u hu => ?_, h.io, ?_, h.bo, h.bf⟩
  · rw [nf.set_heap _ _ _ _ s _ f1, List.setIfInBounds_toArray, range_up]
  · have a1 := ow.keep (W' := w') (h.oo u hu) fun g e => hg.block g (ow.lt (h.oo u hu) e).2 (own_ne (h.oo u hu) (h.ff s hs) (by decide) g e)
    exact ow.keep a1 fun g e => hh g (fun e2 => ow.type a1 f1 (by decide) (by rw [← e2]; exact e.symm))
  · by_cases e : u = s
    · subst e
      rw [up_same, up_same]
      refine ow.keep ?_ fun g e => hh g (fun e2 => ow.type ho f1 (by decide) (by rw [← e2]; exact e.symm))
      exact ho
    · rw [up_ne _ _ e, up_ne _ _ e]
      have a1 := ow.keep (W' := w') (h.ff u hu) fun g e3 => hg.block g (ow.lt (h.ff u hu) e3).2 (fun e4 => e (h.jf u s g hu hs e3 e4.symm))
      exact ow.keep a1 fun g e3 => hh g (fun e2 => ow.type a1 f1 (by decide) (by rw [← e2]; exact e3.symm))
  · intro u v g hu hv e1 e2
    by_cases a : u = s
    · by_cases b : v = s
      · rw [a, b]
      · rw [a, up_same] at e1
        rw [up_ne _ _ b] at e2
        exfalso
        exact new_ne hw (ow.lt (h.ff v hv) e2).2 (fun e3 => b (h.jf v s g hv hs e2 e3.symm)) e1.symm
    · by_cases b : v = s
      · rw [b, up_same] at e2
        rw [up_ne _ _ a] at e1
        exfalso
        exact new_ne hw (ow.lt (h.ff u hu) e1).2 (fun e3 => a (h.jf u s g hu hs e1 e3.symm)) e2.symm
      · rw [up_ne _ _ a] at e1
        rw [up_ne _ _ b] at e2
        exact h.jf u v g hu hv e1 e2
theorem Nb.putO (h : Nb B ob fb n Vo Vf Es Fs w) {s : Nat} (hs : s < n) {y : Ed} {g' k' cap' : Nat} (hk : k' = (Es s).length + 1) (ho : w'.ownsRow B 62 7 (.slice (some ⟨g', 0, none⟩) k' cap') k' (c7 (Es s) ++ e7 y)) (hg : w.grownBy w' (Vo s).ownBlock) (hw : some g' = (Vo s).ownBlock ∨ w.heap.size ≤ g') :
    Nb B ob fb n (up Vo s (.slice (some ⟨g', 0, none⟩) k' cap')) Vf (up Es s (Es s ++ [y])) Fs (w'.setCell ⟨ob, s, none⟩ (.slice (some ⟨g', 0, none⟩) k' cap')) := by
  have n1 : some ob ≠ (Vo s).ownBlock := ow.type (h.oo s hs) h.orow (by decide)
  have n2 : some fb ≠ (Vo s).ownBlock := ow.type (h.oo s hs) h.frow (by decide)
  have o1 := (hg.block ob h.olt n1).trans h.orow
  have f1 := (hg.block fb h.flt n2).trans h.frow
  have hne : ob ≠ fb := fun e => by have a := h.orow; have b := h.frow; rw [e, b] at a; injection a with a; injection a with _ a; exact absurd a (by decide)
  have hh : ∀ j, j ≠ ob → (w'.setCell ⟨ob, s, none⟩ (.slice (some ⟨g', 0, none⟩) k' cap')).heap[j]? = w'.heap[j]? := fun j hj => Below.heap_setCell _ _ _ j hj
  refine ⟨?_, (hh fb (Ne.symm hne)).trans f1, fun u hu => ?_, fun u hu => ?_, ?_, h.jf, h.bo, h.bf⟩
  · rw [nf.set_heap _ _ _ _ s _ o1, List.setIfInBounds_toArray, range_up]
  · by_cases e : u = s
    · subst e
      subst hk
      rw [up_same, up_same, c7_snoc, List.length_append]
      exact ow.keep ho fun g e => hh g (fun e2 => ow.type ho o1 (by decide) (by rw [← e2]; exact e.symm))
    · rw [up_ne _ _ e, up_ne _ _ e]
      have a1 := ow.keep (W' := w') (h.oo u hu) fun g e3 => hg.block g (ow.lt (h.oo u hu) e3).2 (fun e4 => e (h.io u s g hu hs e3 e4.symm))
      exact ow.keep a1 fun g e3 => hh g (fun e2 => ow.type a1 o1 (by decide) (by rw [← e2]; exact e3.symm))
  · have a1 := ow.keep (W' := w') (h.ff u hu) fun g e => hg.block g (ow.lt (h.ff u hu) e).2 (own_ne (h.ff u hu) (h.oo s hs) (by decide) g e)
    exact ow.keep a1 fun g e => hh g (fun e2 => ow.type a1 o1 (by decide) (by rw [← e2]; exact e.symm))
  · intro u v g hu hv e1 e2
    by_cases a : u = s
    · by_cases b : v = s
      · rw [a, b]
      · rw [a, up_same] at e1
        rw [up_ne _ _ b] at e2
        exfalso
        exact new_ne hw (ow.lt (h.oo v hv) e2).2 (fun e3 => b (h.io v s g hv hs e2 e3.symm)) e1.symm
    · by_cases b : v = s
      · rw [b, up_same] at e2
        rw [up_ne _ _ a] at e1
        exfalso
        exact new_ne hw (ow.lt (h.oo u hu) e1).2 (fun e3 => a (h.io u s g hu hs e1 e3.symm)) e2.symm
      · rw [up_ne _ _ a] at e1
        rw [up_ne _ _ b] at e2
        exact h.io u v g hu hv e1 e2
end
end Go.Proofs.Ythknhbmibmndoaa.bd
