/-
  Contracts over this program: what is reached over Free edges (nfa.Free), the walk.
-/
import Derived.Test.YtfilndgbgdnpiaaM03
namespace Go.Proofs.Ytfilndgbgdnpiaa.nf
open Go.RowKit Go.Shelf
set_option linter.unusedVariables false
open df (Kp Owns Row iv In IntsV)

def FreeIs (f : Nat) (x : Nfa) (l L : List Int) : Prop := ∀ o cap lo lcap w, Eds w o cap x.edges → Row (In w) w iv lo lcap l → Calls Try.prog f #[nfaV x.n x.s x.e o x.edges.length cap, .slice lo l.length lcap] w fun e w' => ∃ v, e = .returned v ∧ IntsV w' v L ∧ Below w.heap.size w w'
set_option maxHeartbeats 1000000 in
theorem free_no (x : Nfa) (l : List Int) (h : right x = false) : FreeIs 63 x l [] := by
  intro o cap lo lcap w hE hL
  have b0 := box_new w x.n x.s x.e o x.edges.length cap
  have h11 := right_any x false h.symm o cap _ (hE.later (below_alloc w (.cells #[.int .i64 x.n, .int .i64 x.s, .int .i64 x.e, .slice o x.edges.length cap] 31)))
  go_enter Try.func63, Try.ntmps63
  go_wp2_with (go_at_call 30; refine h11.mono ?_; rintro e w2 ⟨rfl, b2⟩)
  go_ret
  exact ⟨_, rfl, ⟨none, 0, rfl, Nat.le_refl _, by omega, fun i hi => by simp at hi⟩, chain (below_alloc _ _) b2⟩
theorem eds_keep {w W : World} {o : Option Addr} {cap : Nat} {l : List Ed} (h : Eds w o cap l) (hk : ∀ b, b < w.heap.size → W.heap[b]? = w.heap[b]?) (hs : w.heap.size ≤ W.heap.size) : Eds W o cap l :=
  ⟨h.fit, h.top, fun i hi => by
    obtain ⟨k, off, h1, h2, h3⟩ := h.lie i hi
    exact ⟨k, off, h1, Nat.lt_of_lt_of_le h2 hs, h3.same (hk k h2)⟩⟩
theorem more_of {N A C fb nb : Nat} (h1 : fb < C) (h2 : nb < C) (h3 : A ≤ fb) (h4 : A ≤ nb) : ∀ b, (b < N ∨ b = fb ∨ b = nb) → b < N ∨ (A ≤ b ∧ b < C) := by
  rintro b (h | h | h)
  · exact .inl h
  · exact .inr (by omega)
  · exact .inr (by omega)
theorem web_of {w W : World} {o : Option Addr} {cap n fb nb N : Nat} {l : List Ed} (h : Eds w o cap l) (hk : ∀ b, b < w.heap.size → W.heap[b]? = w.heap[b]?) (hN : w.heap.size ≤ N) (rf : IRow W fb (firsts l n l.length)) (rn : IRow W nb (nexts l l.length)) (hW : N ≤ W.heap.size) :
    WebAt (fun b => b < N ∨ b = fb ∨ b = nb) W l n o cap fb nb :=
  ⟨h.fit, h.top, fun i hi => by
    obtain ⟨k, off, h1, h2, h3⟩ := h.lie i hi
    exact ⟨k, off, h1, .inl (Nat.lt_of_lt_of_le h2 hN), h3.same (hk k h2)⟩, rf, rn, .inr (.inl rfl), .inr (.inr rfl), fun b hb => by
    rcases hb with h | h | h
    · omega
    · rw [h]; exact rf.lt
    · rw [h]; exact rn.lt⟩
end Go.Proofs.Ytfilndgbgdnpiaa.nf
