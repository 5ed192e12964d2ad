/-
  Contracts over this program: what the document's Runs answers (fretsawref07), plain.
-/
import Derived.Test.YthknhbmibmndoaaKNv
import Derived.Test.YthknhbmibmndoaaKNm
namespace Go.Proofs.Ythknhbmibmndoaa.nf
open Go.RowKit Go.Shelf
set_option linter.unusedVariables false
open df (Kp Owns Row iv In IntsV)

/-- 1 of the states of a set -/
structure Set1 (n : Nat) (S : Int → Prop) (M : List Int) : Prop where
  len : M.length = n
  one : ∀ i (h : i < M.length), (M[i] = 1 ∧ S (i : Int)) ∨ (M[i] = 0 ∧ ¬ S (i : Int))
theorem set1_of {x : Nfa} {n : Nat} {P S : Int → Prop} {M : List Int} (h : IsMarks x n P M) (he : ∀ t, Reach x P t ↔ S t) : Set1 n S M :=
  ⟨h.base.len, fun i hi => by
    rcases h.base.two i hi with t | t
    · exact .inr ⟨t, fun hs => by have := h.all i hi ((he _).2 hs); rw [t] at this; cases this⟩
    · exact .inl ⟨t, (he _).1 (h.base.reach i hi t)⟩⟩
theorem Set1.yes {n : Nat} {S : Int → Prop} {M : List Int} (h : Set1 n S M) (i : Nat) (hi : i < M.length) : M[i] = 1 ↔ S (i : Int) := by
  rcases h.one i hi with ⟨a, b⟩ | ⟨a, b⟩
  · exact ⟨fun _ => b, fun _ => a⟩
  · exact ⟨fun c => (by rw [a] at c; cases c), fun c => absurd c b⟩
/-- where the edges over a byte go from a set -/
def goes (b : Nat) (M : List Int) (es : List Ed) : List Int := (es.filter fun e => !e.free && decide (M[e.fr.toNat]? = some 1) && hasE e b).map (·.to)
theorem goes_len (b : Nat) (M : List Int) (es : List Ed) : (goes b M es).length ≤ es.length := by
  unfold goes
  rw [List.length_map]
  exact List.length_filter_le _ _
theorem goes_no (b : Nat) (M : List Int) (es : List Ed) (e : Ed) (h : (!e.free && decide (M[e.fr.toNat]? = some 1) && hasE e b) = false) : goes b M (es ++ [e]) = goes b M es := by
  unfold goes
  rw [List.filter_append]
  simp [h]
theorem goes_yes (b : Nat) (M : List Int) (es : List Ed) (e : Ed) (h : (!e.free && decide (M[e.fr.toNat]? = some 1) && hasE e b) = true) : goes b M (es ++ [e]) = goes b M es ++ [e.to] := by
  unfold goes
  rw [List.filter_append, List.map_append]
  simp [h]
theorem goes_mem {x : Nfa} {n : Nat} (R : Rt x n) {S : Int → Prop} {M : List Int} (h : Set1 n S M) (b : Nat) (t : Int) : t ∈ goes b M x.edges ↔ Over x b S t := by
  unfold goes Over
  simp only [List.mem_map, List.mem_filter, Bool.and_eq_true, decide_eq_true_eq, Bool.not_eq_true']
  constructor
  · rintro ⟨e, ⟨m, ⟨f, g⟩, k⟩, rfl⟩
    have r := R.fr e m
    have hl := h.len
    rw [List.getElem?_eq_getElem (by omega)] at g
    have := (h.yes e.fr.toNat (by omega)).1 (Option.some.inj g)
    refine ⟨e, m, f, k, rfl, ?_⟩
    rwa [show ((e.fr.toNat : Nat) : Int) = e.fr by omega] at this
  · rintro ⟨e, m, f, k, rfl, r'⟩
    have r := R.fr e m
    have hl := h.len
    refine ⟨e, ⟨m, ⟨f, ?_⟩, k⟩, rfl⟩
    rw [List.getElem?_eq_getElem (by omega), (h.yes e.fr.toNat (by omega)).2 (by rwa [show ((e.fr.toNat : Nat) : Int) = e.fr by omega])]
theorem over_in {x : Nfa} {n : Nat} (R : Rt x n) {b : Nat} {S : Int → Prop} {t : Int} (h : Over x b S t) : 0 ≤ t ∧ t < x.n := by
  obtain ⟨e, m, _, _, rfl, _⟩ := h
  have := R.to e m
  rw [R.hx]
  exact this
theorem next_eq {x : Nfa} {n : Nat} (R : Rt x n) {d : Nat → Nat} {at' k : Nat} {M : List Int} (h : Set1 n (Reach x (Base x d at' k)) M) (b : Nat) (hb : b = d (at' + k)) (t : Int) : Reach x (fun s => s ∈ goes b M x.edges ∧ 0 ≤ s ∧ s < x.n) t ↔ Reach x (Base x d at' (k + 1)) t := by
  have key : ∀ t, (t ∈ goes b M x.edges ∧ 0 ≤ t ∧ t < x.n) ↔ Base x d at' (k + 1) t := fun t => by
    rw [goes_mem R h b t, hb]
    exact ⟨fun h => h.1, fun h => ⟨h, over_in R h⟩⟩
  exact ⟨fun r => r.mono (fun t ht => (key t).1 ht), fun r => r.mono (fun t ht => (key t).2 ht)⟩
theorem first_eq {x : Nfa} {n : Nat} (R : Rt x n) {d : Nat → Nat} {at' : Nat} (t : Int) : Reach x (fun s => s ∈ [x.s] ∧ 0 ≤ s ∧ s < x.n) t ↔ Reach x (Base x d at' 0) t := by
  have key : ∀ t, (t ∈ [x.s] ∧ 0 ≤ t ∧ t < x.n) ↔ Base x d at' 0 t := fun t => by
    show _ ↔ t = x.s
    rw [List.mem_singleton]
    exact ⟨fun h => h.1, fun h => ⟨h, by rw [h]; exact R.s.1, by rw [h, R.hx]; exact R.s.2⟩⟩
  exact ⟨fun r => r.mono (fun t ht => (key t).1 ht), fun r => r.mono (fun t ht => (key t).2 ht)⟩
end Go.Proofs.Ythknhbmibmndoaa.nf
