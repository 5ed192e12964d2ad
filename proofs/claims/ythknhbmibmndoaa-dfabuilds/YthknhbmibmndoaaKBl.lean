/-
  Contracts over this program: the number of any set (builder.number), the row of a set (builder.row).
-/
import Derived.Test.YthknhbmibmndoaaKBk
namespace Go.Proofs.Ythknhbmibmndoaa.bd
open Go.Sort Go.ChangeShapes Go.WideShapes Go.ChangeAt Go.RowKit Go.Maps
open df (Kp Row iv In IntsV Owns)
open nf (Nfa Ed Rt IRow)
open st (Q4 none4 Fits has nth jn sig)
set_option linter.unusedVariables false
set_option maxRecDepth 10000

/-- a set's number, among those that are numbered then -/
def Nr (n : Nat) (L L' : List (List Bool)) (σ : List Bool) (r : Int) : Prop := (r = -1 ∧ σ = off n ∧ L' = L) ∨ ∃ k : Nat, r = (k : Int) ∧ L'[k]? = some σ ∧ (L' = L ∨ (L' = L ++ [σ] ∧ σ ≠ off n ∧ σ ∉ L))
def NumIs (X Y : Nat → Prop) (W : World) (B b mb : Nat) (h : Hd) (n e : Nat) (L : List (List Bool)) (nn : List Value) (σ : List Bool) : Prop := Calls Try.prog 57 #[.pointer (some ⟨b, 0, none⟩), .string (txtB σ)] W fun ev W' => ∃ r L' X' Y' vs vn va ss m D, ev = .returned (.int .i64 r) ∧ Nr n L L' σ r ∧ (∀ k, X k → X' k) ∧ (∀ k, X' k → X k ∨ W.heap.size ≤ k) ∧ (∀ k, Y k → Y' k) ∧ (∀ k, Y' k → Y k ∨ W.heap.size ≤ k) ∧ Bst X' Y' W' B b mb h n e L' nn vs vn va ss m D ∧ Mv X B W W'
theorem number_any {X Y : Nat → Prop} {W : World} {B b mb : Nat} {h : Hd} {n e : Nat} {L : List (List Bool)} {nn : List Value} {vs vn va : Value} {ss : List Value} {m : Nat} {D : DataW Unit} (k : Bst X Y W B b mb h n e L nn vs vn va ss m D) (σ : List Bool) (hs : σ.length = n) (hL : L.length ≤ 500000) : NumIs X Y W B b mb h n e L nn σ := by
  by_cases h1 : σ = off n
  · refine (number_old k σ hs (-1) (.inl ⟨h1, rfl⟩)).mono ?_
    rintro ev W' ⟨rfl, rfl⟩
    exact ⟨-1, L, X, Y, vs, vn, va, ss, m, D, rfl, .inl ⟨rfl, h1, rfl⟩, fun _ h => h, fun _ h => .inl h, fun _ h => h, fun _ h => .inl h, k, Mv.refl _ _ _⟩
  · by_cases h2 : σ ∈ L
    · obtain ⟨i, hi⟩ := List.getElem?_of_mem h2
      refine (number_old k σ hs (i : Int) (.inr ⟨i, hi, rfl⟩)).mono ?_
      rintro ev W' ⟨rfl, rfl⟩
      exact ⟨i, L, X, Y, vs, vn, va, ss, m, D, rfl, .inr ⟨i, rfl, hi, .inl rfl⟩, fun _ h => h, fun _ h => .inl h, fun _ h => h, fun _ h => .inl h, k, Mv.refl _ _ _⟩
    · refine (number_new k σ hs h1 h2 hL).mono ?_
      rintro ev W' ⟨rfl, X', Y', vs', vn', va', ss', m', D', a1, a2, a3, a4, k', m1⟩
      exact ⟨L.length, L ++ [σ], X', Y', vs', vn', va', ss', m', D', rfl, .inr ⟨L.length, rfl, by simp, .inr ⟨rfl, h1, h2⟩⟩, a1, a2, a3, a4, k', m1⟩
theorem Nr.pre {n : Nat} {L L' : List (List Bool)} {σ : List Bool} {r : Int} (h : Nr n L L' σ r) : L <+: L' := by
  rcases h with ⟨_, _, rfl⟩ | ⟨k, _, _, rfl | ⟨rfl, _⟩⟩
  · exact List.prefix_refl _
  · exact List.prefix_refl _
  · exact List.prefix_append _ _
theorem Nr.len {n : Nat} {L L' : List (List Bool)} {σ : List Bool} {r : Int} (h : Nr n L L' σ r) : L'.length ≤ L.length + 1 := by
  rcases h with ⟨_, _, rfl⟩ | ⟨k, _, _, rfl | ⟨rfl, _⟩⟩
  · omega
  · omega
  · simp
/-- what stays so of the numbered sets -/
theorem Nr.nums {x : Nfa} {n : Nat} {L L' : List (List Bool)} {σ ρ : List Bool} {r : Int} (h : Nr n L L' σ r) (k : Nums x n L) (hs : σ.length = n) {j c : Nat} (hj : L[j]? = some ρ) (hc : c < 256) (hρ : IsSet n (To x c ρ) σ) : Nums x n L' := by
  rcases h with ⟨_, _, rfl⟩ | ⟨i, _, _, rfl | ⟨rfl, h1, h2⟩⟩
  · exact k
  · exact k
  · refine ⟨fun τ hτ => ?_, ?_, fun τ hτ => ?_, ?_, fun i τ hi => ?_⟩
    · rcases List.mem_append.1 hτ with h | h
      · exact k.len τ h
      · rw [List.mem_singleton.1 h]; exact hs
    · rw [List.nodup_append]
      refine ⟨k.nd, by simp, fun a ha b hb e => h2 ?_⟩
      rw [← List.mem_singleton.1 hb, ← e]; exact ha
    · rcases List.mem_append.1 hτ with h | h
      · exact k.ne τ h
      · rw [List.mem_singleton.1 h]; exact h1
    · obtain ⟨τ, a, b⟩ := k.first
      exact ⟨τ, get_pre (List.prefix_append _ _) a, b⟩
    · by_cases hl : i + 1 < L.length
      · rw [List.getElem?_append_left hl] at hi
        obtain ⟨j', c', ρ', a1, a2, a3, a4⟩ := k.par i τ hi
        exact ⟨j', c', ρ', a1, a2, get_pre (List.prefix_append _ _) a3, a4⟩
      · have hlt := (List.getElem?_eq_some_iff.1 hi).1
        simp at hlt
        have e : i + 1 = L.length := by omega
        rw [e, List.getElem?_append_right (Nat.le_refl _)] at hi
        simp at hi
        subst hi
        have := (List.getElem?_eq_some_iff.1 hj).1
        exact ⟨j, c, ρ, by omega, hc, get_pre (List.prefix_append _ _) hj, hρ⟩
/-- what stays of the builder's rows -/
structure Net (X : Nat → Prop) (W : World) (h : Hd) (n : Nat) (E : Nat → List Ed) (F : Nat → List Int) (ls : List Nat) (ob oc fb fc : Nat) (lo : Option Addr) (lc : Nat) : Prop where
  vo : h.vo = .slice (some ⟨ob, 0, none⟩) n oc
  ovr : Ovr X W ob oc n E
  vf : h.vf = .slice (some ⟨fb, 0, none⟩) n fc
  fre : Fre X W fb fc n F
  vl : h.vl = .slice lo ls.length lc
  lst : Row X W (fun y : Nat => Value.int .u8 (y : Int)) lo lc ls
theorem Net.carry {X Y : Nat → Prop} {W W' : World} {h : Hd} {n : Nat} {E : Nat → List Ed} {F : Nat → List Int} {ls : List Nat} {ob oc fb fc : Nat} {lo : Option Addr} {lc : Nat} (k : Net X W h n E F ls ob oc fb fc lo lc) (hk : ∀ b, X b → W'.heap[b]? = W.heap[b]?) (hq : ∀ b, X b → Y b) : Net Y W' h n E F ls ob oc fb fc lo lc :=
  ⟨k.vo, k.ovr.carry hk hq, k.vf, k.fre.carry hk hq, k.vl, k.lst.carry hk hq⟩
theorem text_sig (l : List Q4) (hf : ∀ q ∈ l, Fits q) (hlen : l.length ≤ 1000000) (hpos : 1 ≤ l.length) (c : Nat) (hc : c < 256) : TextIs l c (txtB (sig l c)) := text_any l hf hlen hpos c hc _ (by rw [key_txt])
/-- a row that is being filled -/
structure Fil (x : Nfa) (n : Nat) (ls : List Nat) (L : List (List Bool)) (σ : List Bool) (i : Nat) (r : List Int) : Prop where
  len : r.length = ls.length
  at' : ∀ (c : Nat) y, c < i → ls[c]? = some y → ∃ τ, IsSet n (To x y σ) τ ∧ (r[c]? = some (-1) ∧ τ = off n ∨ ∃ k : Nat, r[c]? = some (k : Int) ∧ L[k]? = some τ)
theorem Fil.put {x : Nfa} {n : Nat} {ls : List Nat} {L L' : List (List Bool)} {σ τ : List Bool} {i y : Nat} {r : List Int} {v : Int} (h : Fil x n ls L σ i r) (hy : ls[i]? = some y) (ht : IsSet n (To x y σ) τ) (hn : Nr n L L' τ v) : Fil x n ls L' σ (i + 1) (r.set i v) := by
  have hi := (List.getElem?_eq_some_iff.1 hy).1
  have hil : i < r.length := by rw [h.len]; exact hi
  refine ⟨by rw [List.length_set]; exact h.len, fun c z hc hz => ?_⟩
  by_cases e : c = i
  · subst e
    rw [hy] at hz
    cases hz
    refine ⟨τ, ht, ?_⟩
    rw [List.getElem?_set_self hil]
    rcases hn with ⟨rfl, a, _⟩ | ⟨k, rfl, a, _⟩
    · exact .inl ⟨rfl, a⟩
    · exact .inr ⟨k, rfl, a⟩
  · obtain ⟨ρ, h1, h2⟩ := h.at' c z (by omega) hz
    refine ⟨ρ, h1, ?_⟩
    rw [List.getElem?_set_ne (fun e2 => e e2.symm)]
    rcases h2 with a | ⟨k, a, b⟩
    · exact .inl a
    · exact .inr ⟨k, a, get_pre hn.pre b⟩
theorem Fil.done {x : Nfa} {n : Nat} {ls : List Nat} {L : List (List Bool)} {σ : List Bool} {r : List Int} (h : Fil x n ls L σ ls.length r) : RowOf x n ls L σ r := ⟨h.len, fun c y hc => h.at' c y (List.getElem?_eq_some_iff.1 hc).1 hc⟩
/-- a cell of a block of the rest is set -/
theorem Bst.set {X Y : Nat → Prop} {W : World} {B b mb : Nat} {h : Hd} {n e : Nat} {L : List (List Bool)} {nn : List Value} {vs vn va : Value} {ss : List Value} {m : Nat} {D : DataW Unit} (k : Bst X Y W B b mb h n e L nn vs vn va ss m D) {g : Nat} (hX : X g) (hY : ¬ Y g) (i : Nat) (v : Value) : Bst X Y (W.setCell ⟨g, i, none⟩ v) B b mb h n e L nn vs vn va ss m D := by
  have hh : ∀ j, j ≠ g → (W.setCell ⟨g, i, none⟩ v).heap[j]? = W.heap[j]? := fun j hj => Below.heap_setCell _ _ _ j hj
  obtain ⟨a1, a2, a3, a4, a5, a6⟩ := k.bu.ap g hX
  exact ⟨k.bu.keep (by simp) (hh b (Ne.symm a2)) (hh mb (Ne.symm a3)) (fun j e => hh j (fun e2 => a4 (by rw [← e2]; exact e.symm))) (fun j e => hh j (fun e2 => a5 (by rw [← e2]; exact e.symm))) (fun j e => hh j (fun e2 => a6 (by rw [← e2]; exact e.symm))), k.rs.carry (fun j hj => hh j (fun e => hY (e ▸ hj))) (fun _ h => h), k.yx, k.mp, k.m1, k.hn, k.he, k.en, k.n2, k.ln⟩
theorem Bst.more {X Y Z : Nat → Prop} {W W' : World} {B b mb : Nat} {h : Hd} {n e : Nat} {L : List (List Bool)} {nn : List Value} {vs vn va : Value} {ss : List Value} {m : Nat} {D : DataW Unit} (k : Bst X Y W B b mb h n e L nn vs vn va ss m D) (c : Below W.heap.size W W') (hx : ∀ g, X g → Z g) (hz : ∀ g, Z g → X g ∨ (W.heap.size ≤ g ∧ g < W'.heap.size)) : Bst Z Y W' B b mb h n e L nn vs vn va ss m D :=
  ⟨k.bu.more c hz, k.rs.carry (fun j hj => c.block j (k.bu.ap j (k.yx j hj)).1) (fun _ h => h), fun j hj => hx j (k.yx j hj), k.mp, k.m1, k.hn, k.he, k.en, k.n2, k.ln⟩
end Go.Proofs.Ythknhbmibmndoaa.bd
