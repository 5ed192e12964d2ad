/-
  Plain mathematics: the sets of the edges that are laid are sets of the expression, so they fit.
-/
import Derived.Test.YtfilndgbgdnpiaaM04
import Derived.Test.YtfilndgbgdnpiaaM19
import Derived.Test.YtfilndgbgdnpiaaM07
namespace Go.Proofs.Ytfilndgbgdnpiaa.nb
open st (Tr Q4 nodesOf goods okNode)
open nf (Ed)
set_option linter.unusedVariables false

def EF (x : St) : Prop := ∀ e ∈ x.es, nf.Fits e
theorem EF.new {x : St} (h : EF x) : EF x.new := h
theorem EF.free {x : St} (h : EF x) (f t : Nat) : EF (x.free f t) := fun e he => by
  rcases List.mem_append.1 he with he | he
  · exact h e he
  · rw [List.mem_singleton] at he
    subst he
    unfold nf.Fits
    simp only []
    omega
def LF (L : Lay) : Prop := ∀ f t x, EF x → EF (L f t x)
theorem times_ef {L : Lay} (h : LF L) : ∀ (k f : Nat) (x : St), EF x → EF (times L k f x).2
  | 0, f, x, hx => hx
  | k + 1, f, x, hx => times_ef h k x.n _ (h f x.n x.new hx)
theorem upTo_ef {L : Lay} (h : LF L) (least to : Nat) : ∀ (k i f : Nat) (x : St), EF x → EF (upTo L least to k i f x)
  | 0, i, f, x, hx => hx.free f to
  | k + 1, i, f, x, hx => by
    unfold upTo
    dsimp only
    refine upTo_ef h least to k (i + 1) _ _ (h f _ _ ?_)
    split
    · exact (hx.free f to).new
    · exact hx.new
theorem again_ef {L : Lay} (h : LF L) (least f to : Nat) (x : St) (hx : EF x) : EF (again L least f to x) := by
  have h1 := times_ef h (least - 1) f x hx
  unfold again
  dsimp only
  split
  · exact (h _ _ _ ((h1.new.free _ _).new.free _ _)).free _ _
  · exact (h _ _ _ (h1.new.free _ _)).free _ _
mutual
theorem lay_ef : ∀ (t : Tr), t.sane → LF (layT t)
  | .node k q mn mx l, hs => by
    intro f t x hx
    rw [layT]
    split
    · exact hx
    · split
      · intro e he
        rcases List.mem_append.1 he with he | he
        · exact hx e he
        · rw [List.mem_singleton] at he
          subst he
          unfold Tr.sane at hs
          exact ⟨hs.1.a, hs.1.b, hs.1.c, hs.1.d⟩
      · unfold Tr.sane at hs
        split
        · exact (row_ef l hs.2.2.2.2 f x hx).free _ _
        · split
          · exact alt_ef l hs.2.2.2.2 f t x hx
          · split
            · split
              · exact again_ef (head_ef l hs.2.2.2.2) _ f t x hx
              · exact upTo_ef (head_ef l hs.2.2.2.2) _ t _ _ f x hx
            · exact hx
theorem row_ef : ∀ (l : List Tr), st.sanes l → ∀ (f : Nat) (x : St), EF x → EF (rowT l f x).2
  | [], _, f, x, hx => hx
  | t :: l, hs, f, x, hx => by
    unfold st.sanes at hs
    rw [rowT]
    exact row_ef l hs.2 x.n _ (lay_ef t hs.1 f x.n x.new hx)
theorem alt_ef : ∀ (l : List Tr), st.sanes l → LF (altT l)
  | [], _ => fun f t x hx => hx
  | k :: l, hs => by
    unfold st.sanes at hs
    intro f t x hx
    rw [altT]
    exact alt_ef l hs.2 f t _ (lay_ef k hs.1 f t x hx)
theorem head_ef : ∀ (l : List Tr), st.sanes l → LF (headT l)
  | [], _ => fun f t x hx => hx
  | k :: _, hs => by
    unfold st.sanes at hs
    exact lay_ef k hs.1
end
theorem built_fits (t : Tr) (h : t.sane) : ∀ e ∈ (nfaOf t).edges, nf.Fits e := lay_ef t h 0 1 ⟨2, []⟩ (fun e he => by cases he)
end Go.Proofs.Ytfilndgbgdnpiaa.nb
