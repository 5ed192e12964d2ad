/-
  Texts put together: Plain mathematics, no program beside the edges' form: the nfa that is laid for an expression, as the builder lays it, step by step; how many states and edges it may come to; that every edge goes between states that are. Plain mathematics: every edge of the nfa that is laid goes between states that are; so what Build answers is an nfa that may be. Contracts over this program: the nfa's builder: full, state, free, over. Contracts over this program: the nfa's builder: over. Contracts over this program: the nfa's builder: one; what laying a tree asks and gives.
-/
import Derived.Test.YtfilndgbgdnpiaaM07
import Derived.Test.YtfilndgbgdnpiaaM00
import Derived.Test.YtfilndgbgdnpiaaKAp
import Derived.WalkKit
import Derived.Deep.RegionLaw
import Derived.Test.YtfilndgbgdnpiaaM09
namespace Go.Proofs.Ytfilndgbgdnpiaa.nb
open st (Tr Q4 nodesOf goods okNode)
open nf (Ed)
set_option linter.unusedVariables false

/-- an nfa that is being made -/
structure St where
  n : Nat
  es : List Ed
def St.full (x : St) : Bool := decide (2000 < x.n) || decide (16000 < x.es.length)
def St.new (x : St) : St := ⟨x.n + 1, x.es⟩
def St.free (x : St) (f t : Nat) : St := ⟨x.n, x.es ++ [⟨f, t, true, 0, 0, 0, 0⟩]⟩
def St.over (x : St) (q : Q4) (f t : Nat) : St := ⟨x.n, x.es ++ [⟨f, t, false, q.a, q.b, q.c, q.d⟩]⟩
/-- what lays an expression between two states -/
abbrev Lay := Nat → Nat → St → St
/-- so many times, one behind the other: the state behind the last, and the nfa -/
def times (L : Lay) : Nat → Nat → St → Nat × St
  | 0, f, x => (f, x)
  | k + 1, f, x => times L k x.n (L f x.n x.new)
def upTo (L : Lay) (least to : Nat) : Nat → Nat → Nat → St → St
  | 0, i, f, x => x.free f to
  | k + 1, i, f, x => let y := if least ≤ i then x.free f to else x; upTo L least to k (i + 1) y.n (L f y.n y.new)
def again (L : Lay) (least f to : Nat) (x : St) : St :=
  let y := times L (least - 1) f x
  let z := y.2.new.free y.1 y.2.n
  if 0 < least then (L y.2.n z.n (z.new.free z.n y.2.n)).free z.n to else (L y.2.n y.2.n z).free y.2.n to
mutual
def layT : Tr → Lay
  | .node k q mn mx l, f, t, x =>
    if x.full = true then x
    else if k = 1 then x.over q f t
    else if k = 2 then let y := rowT l f x; y.2.free y.1 t
    else if k = 3 then altT l f t x
    else if k = 4 then (if mx = -1 then again (headT l) mn.toNat f t x else upTo (headT l) mn.toNat t mx.toNat 0 f x)
    else x
def rowT : List Tr → Nat → St → Nat × St
  | [], f, x => (f, x)
  | t :: l, f, x => rowT l x.n (layT t f x.n x.new)
def altT : List Tr → Lay
  | [], f, t, x => x
  | k :: l, f, t, x => altT l f t (layT k f t x)
def headT : List Tr → Lay
  | [], f, t, x => x
  | k :: _, f, t, x => layT k f t x
end
theorem layT_full (t : Tr) (f to : Nat) (x : St) (h : x.full = true) : layT t f to x = x := by
  cases t
  rw [layT, if_pos h]
theorem headT_full (l : List Tr) (f to : Nat) (x : St) (h : x.full = true) : headT l f to x = x := by
  cases l with
  | nil => rfl
  | cons t l => exact layT_full t f to x h
/-- at most so many states and edges -/
structure Most (x : St) (a b : Nat) : Prop where
  n : x.n ≤ a
  e : x.es.length ≤ b
theorem Most.up {x : St} {a b a' b' : Nat} (h : Most x a b) (h1 : a ≤ a') (h2 : b ≤ b') : Most x a' b' := ⟨Nat.le_trans h.n h1, Nat.le_trans h.e h2⟩
theorem Most.new {x : St} {a b : Nat} (h : Most x a b) : Most x.new (a + 1) b := ⟨Nat.succ_le_succ h.n, h.e⟩
theorem Most.free {x : St} {a b : Nat} (h : Most x a b) (f t : Nat) : Most (x.free f t) a (b + 1) := ⟨h.n, by have := h.e; simp [St.free]; omega⟩
theorem not_full {x : St} (h : ¬ x.full = true) : Most x 2000 16000 := by
  simp [St.full] at h
  exact ⟨h.1, h.2⟩
/-- what a lay adds at most, if it is not full; it adds nothing where it is -/
structure Lim (L : Lay) (G : Nat) : Prop where
  idle : ∀ f t x, x.full = true → L f t x = x
  add : ∀ f t x a b, 2000 ≤ a → 16000 ≤ b → Most x a b → Most (L f t x) (a + G) (b + G)
/-- a lay that is run again and again adds its share once -/
theorem Lim.step {L : Lay} {G : Nat} (h : Lim L G) (f t : Nat) (x : St) (a b : Nat) (hx : Most x a b) (ha : 2000 + G ≤ a) (hb : 16000 + G ≤ b) : Most (L f t x) a b := by
  by_cases hf : x.full = true
  · rw [h.idle f t x hf]; exact hx
  · exact (h.add f t x 2000 16000 (Nat.le_refl _) (Nat.le_refl _) (not_full hf)).up ha hb
theorem times_most {L : Lay} {G : Nat} (h : Lim L G) : ∀ (k f : Nat) (x : St) (a b : Nat), Most x a b → 2000 + G ≤ a → 16000 + G ≤ b → Most (times L k f x).2 (a + k) b
  | 0, f, x, a, b, hx, _, _ => hx
  | k + 1, f, x, a, b, hx, ha, hb => by
    have := times_most h k x.n (L f x.n x.new) (a + 1) b (h.step f x.n x.new (a + 1) b hx.new (by omega) hb) (by omega) hb
    exact this.up (by omega) (Nat.le_refl _)
theorem upTo_most {L : Lay} {G : Nat} (h : Lim L G) (least to : Nat) : ∀ (k i f : Nat) (x : St) (a b : Nat), Most x a b → 2000 + G ≤ a → 16000 + G ≤ b → Most (upTo L least to k i f x) (a + k) (b + k + 1)
  | 0, i, f, x, a, b, hx, _, _ => (hx.free f to).up (by omega) (by omega)
  | k + 1, i, f, x, a, b, hx, ha, hb => by
    have hy : Most (if least ≤ i then x.free f to else x) a (b + 1) := by
      split
      · exact hx.free f to
      · exact hx.up (Nat.le_refl _) (by omega)
    unfold upTo
    have := upTo_most h least to k (i + 1) (if least ≤ i then x.free f to else x).n _ (a + 1) (b + 1) (h.step f (if least ≤ i then x.free f to else x).n _ (a + 1) (b + 1) hy.new (by omega) (by omega)) (by omega) (by omega)
    exact this.up (by omega) (by omega)
theorem again_most {L : Lay} {G : Nat} (h : Lim L G) (least f to : Nat) (x : St) (a b : Nat) (hx : Most x a b) (ha : 2000 + G ≤ a) (hb : 16000 + G ≤ b) : Most (again L least f to x) (a + least + 2) (b + 3) := by
  have h1 := times_most h (least - 1) f x a b hx ha hb
  have h2 := h1.new.free (times L (least - 1) f x).1 (times L (least - 1) f x).2.n
  unfold again
  dsimp only
  split
  · exact ((h.step _ _ _ _ _ (h2.new.free _ _) (by omega) (by omega)).free _ _).up (by omega) (by omega)
  · exact ((h.step _ _ _ _ _ h2 (by omega) (by omega)).free _ _).up (by omega) (by omega)
theorem row_most : ∀ (l : List Tr), (∀ t ∈ l, Lim (layT t) (30 * t.nodes - 5)) → ∀ (f : Nat) (x : St) (a b : Nat), 2000 ≤ a → 16000 ≤ b → Most x a b → Most (rowT l f x).2 (a + 30 * nodesOf l) (b + 30 * nodesOf l)
  | [], _, f, x, a, b, _, _, hx => hx
  | t :: l, h, f, x, a, b, ha, hb, hx => by
    have hn : 1 ≤ t.nodes := by rw [Tr.nodes_eq]; omega
    have h1 := (h t (by simp)).add f x.n x.new (a + 1) b (by omega) hb hx.new
    have h2 := row_most l (fun u hu => h u (by simp [hu])) x.n _ _ _ (by omega) (by omega) h1
    rw [rowT, nodesOf]
    exact h2.up (by omega) (by omega)
theorem alt_most : ∀ (l : List Tr), (∀ t ∈ l, Lim (layT t) (30 * t.nodes - 5)) → ∀ (f to : Nat) (x : St) (a b : Nat), 2000 ≤ a → 16000 ≤ b → Most x a b → Most (altT l f to x) (a + 30 * nodesOf l) (b + 30 * nodesOf l)
  | [], _, f, to, x, a, b, _, _, hx => hx
  | t :: l, h, f, to, x, a, b, ha, hb, hx => by
    have h1 := (h t (by simp)).add f to x a b ha hb hx
    have h2 := alt_most l (fun u hu => h u (by simp [hu])) f to _ _ _ (by omega) (by omega) h1
    rw [altT, nodesOf]
    exact h2.up (by omega) (by omega)
theorem goods_mem : ∀ (l : List Tr), goods l = true → ∀ t ∈ l, t.good = true
  | [], _, t, ht => by cases ht
  | u :: l, h, t, ht => by
    rw [goods, Bool.and_eq_true] at h
    rcases List.mem_cons.1 ht with rfl | ht
    · exact h.1
    · exact goods_mem l h.2 t ht
theorem depth_mem : ∀ (l : List Tr), ∀ t ∈ l, t.depth ≤ st.depths l
  | [], t, ht => by cases ht
  | u :: l, t, ht => by
    rw [st.depths]
    rcases List.mem_cons.1 ht with rfl | ht
    · omega
    · have := depth_mem l t ht; omega
theorem times_of (t : Tr) (h : okNode t = true) (hk : t.kind = 4) : t.kids.length = 1 ∧ 0 ≤ t.min ∧ t.min ≤ 20 ∧ (t.max = -1 ∨ 0 ≤ t.max ∧ t.max ≤ 20) := by
  unfold okNode st.timesOk at h
  rw [if_neg (by omega), if_neg (by omega), if_neg (by omega), if_pos hk] at h
  simp at h
  omega
theorem lay_lim : ∀ (d : Nat) (t : Tr), t.depth ≤ d → t.good = true → Lim (layT t) (30 * t.nodes - 5)
  | 0, t, h, _ => by rw [Tr.depth_eq] at h; omega
  | d + 1, t, h, hg => by
    refine ⟨fun f to x hf => layT_full t f to x hf, fun f to x a b ha hb hx => ?_⟩
    rw [Tr.good_eq, Bool.and_eq_true] at hg
    have hkids : ∀ u ∈ t.kids, Lim (layT u) (30 * u.nodes - 5) := fun u hu => lay_lim d u (by have := depth_mem t.kids u hu; rw [Tr.depth_eq] at h; omega) (goods_mem t.kids hg.2 u hu)
    have htm := times_of t hg.1
    rw [Tr.nodes_eq]
    cases t with
    | node k q mn mx l =>
      simp only [Tr.kids, Tr.kind, Tr.min, Tr.max] at hkids htm ⊢
      rw [layT]
      split
      · exact hx.up (by omega) (by omega)
      · split
        · exact ⟨by have := hx.n; simp [St.over]; omega, by have := hx.e; simp [St.over]; omega⟩
        · split
          · have := (row_most l hkids f x a b ha hb hx).free (rowT l f x).1 to
            exact this.up (by omega) (by omega)
          · split
            · exact (alt_most l hkids f to x a b ha hb hx).up (by omega) (by omega)
            · split
              · rename_i hk4
                obtain ⟨hl1, hm0, hm1, hm2⟩ := htm hk4
                match l, hl1, hkids with
                | [kid], _, hkids =>
                  have hK : Lim (headT [kid]) (30 * kid.nodes - 5) := hkids kid (by simp)
                  have hn : 1 ≤ kid.nodes := by rw [Tr.nodes_eq]; omega
                  have e1 : nodesOf [kid] = kid.nodes := by simp [nodesOf]
                  rw [e1]
                  split
                  · have := again_most hK mn.toNat f to x (a + (30 * kid.nodes - 5)) (b + (30 * kid.nodes - 5)) (hx.up (by omega) (by omega)) (by omega) (by omega)
                    exact this.up (by omega) (by omega)
                  · have := upTo_most hK mn.toNat to mx.toNat 0 f x (a + (30 * kid.nodes - 5)) (b + (30 * kid.nodes - 5)) (hx.up (by omega) (by omega)) (by omega) (by omega)
                    exact this.up (by omega) (by omega)
              · exact hx.up (by omega) (by omega)
end Go.Proofs.Ytfilndgbgdnpiaa.nb

namespace Go.Proofs.Ytfilndgbgdnpiaa.nb
open st (Tr Q4 nodesOf goods okNode)
open nf (Ed)
set_option linter.unusedVariables false

def InSt (x : St) : Prop := ∀ e ∈ x.es, 0 ≤ e.fr ∧ e.fr < (x.n : Int) ∧ 0 ≤ e.to ∧ e.to < (x.n : Int)
theorem InSt.new {x : St} (h : InSt x) : InSt x.new := fun e he => by have := h e he; simp [St.new]; omega
theorem InSt.add {x : St} (h : InSt x) (f t : Nat) (hf : f < x.n) (ht : t < x.n) (fr : Bool) (a b c d : Nat) : InSt ⟨x.n, x.es ++ [⟨f, t, fr, a, b, c, d⟩]⟩ := fun e he => by
  rcases List.mem_append.1 he with he | he
  · exact h e he
  · simp at he
    subst he
    exact ⟨by simp, by simpa using hf, by simp, by simpa using ht⟩
theorem InSt.free {x : St} (h : InSt x) (f t : Nat) (hf : f < x.n) (ht : t < x.n) : InSt (x.free f t) := h.add f t hf ht true 0 0 0 0
/-- what a lay keeps -/
def Keep (L : Lay) : Prop := ∀ f t x, f < x.n → t < x.n → InSt x → InSt (L f t x) ∧ x.n ≤ (L f t x).n
theorem times_keep {L : Lay} (h : Keep L) : ∀ (k f : Nat) (x : St), f < x.n → InSt x → InSt (times L k f x).2 ∧ x.n ≤ (times L k f x).2.n ∧ (times L k f x).1 < (times L k f x).2.n
  | 0, f, x, hf, hx => ⟨hx, Nat.le_refl _, hf⟩
  | k + 1, f, x, hf, hx => by
    obtain ⟨h1, h2⟩ := h f x.n x.new (by simp [St.new]; omega) (by simp [St.new]) hx.new
    have h3 : x.n < (L f x.n x.new).n := by simp [St.new] at h2 ⊢; omega
    obtain ⟨h4, h5, h6⟩ := times_keep h k x.n (L f x.n x.new) h3 h1
    exact ⟨h4, Nat.le_trans (Nat.le_of_lt h3) h5, h6⟩
theorem upTo_keep {L : Lay} (h : Keep L) (least to : Nat) : ∀ (k i f : Nat) (x : St), f < x.n → to < x.n → InSt x → InSt (upTo L least to k i f x) ∧ x.n ≤ (upTo L least to k i f x).n
  | 0, i, f, x, hf, ht, hx => ⟨hx.free f to hf ht, Nat.le_refl _⟩
  | k + 1, i, f, x, hf, ht, hx => by
    obtain ⟨y, hy⟩ : ∃ y, y = if least ≤ i then x.free f to else x := ⟨_, rfl⟩
    have hyn : y.n = x.n := by rw [hy]; split <;> rfl
    have hyi : InSt y := by
      rw [hy]
      split
      · exact hx.free f to hf ht
      · exact hx
    unfold upTo
    dsimp only
    rw [← hy]
    obtain ⟨h1, h2⟩ := h f y.n y.new (by simp [St.new]; omega) (by simp [St.new]) hyi.new
    have h3 : y.n < (L f y.n y.new).n := by simp [St.new] at h2 ⊢; omega
    obtain ⟨h4, h5⟩ := upTo_keep h least to k (i + 1) y.n (L f y.n y.new) h3 (by omega) h1
    exact ⟨h4, by omega⟩
theorem again_keep {L : Lay} (h : Keep L) (least f to : Nat) (x : St) (hf : f < x.n) (ht : to < x.n) (hx : InSt x) : InSt (again L least f to x) ∧ x.n ≤ (again L least f to x).n := by
  obtain ⟨h1, h2, h3⟩ := times_keep h (least - 1) f x hf hx
  unfold again
  dsimp only
  generalize times L (least - 1) f x = y at *
  have z1 : InSt (y.2.new.free y.1 y.2.n) := h1.new.free _ _ (by simp [St.new]; omega) (by simp [St.new])
  have zn : (y.2.new.free y.1 y.2.n).n = y.2.n + 1 := rfl
  generalize y.2.new.free y.1 y.2.n = z at *
  split
  · have u1 : InSt (z.new.free z.n y.2.n) := z1.new.free _ _ (by simp [St.new]) (by simp [St.new]; omega)
    have un : (z.new.free z.n y.2.n).n = z.n + 1 := rfl
    obtain ⟨v1, v2⟩ := h y.2.n z.n (z.new.free z.n y.2.n) (by omega) (by omega) u1
    exact ⟨v1.free _ _ (by omega) (by omega), by show x.n ≤ (L y.2.n z.n (z.new.free z.n y.2.n)).n; omega⟩
  · obtain ⟨v1, v2⟩ := h y.2.n y.2.n z (by omega) (by omega) z1
    exact ⟨v1.free _ _ (by omega) (by omega), by show x.n ≤ (L y.2.n y.2.n z).n; omega⟩
mutual
theorem lay_keep : ∀ (t : Tr), Keep (layT t)
  | .node k q mn mx l => by
    intro f t x hf ht hx
    rw [layT]
    split
    · exact ⟨hx, Nat.le_refl _⟩
    · split
      · exact ⟨hx.add f t hf ht false q.a q.b q.c q.d, Nat.le_refl _⟩
      · split
        · obtain ⟨h1, h2, h3⟩ := row_keep l f x hf hx
          exact ⟨h1.free _ _ h3 (by omega), h2⟩
        · split
          · exact alt_keep l f t x hf ht hx
          · split
            · split
              · exact again_keep (head_keep l) _ f t x hf ht hx
              · exact upTo_keep (head_keep l) _ t _ _ f x hf ht hx
            · exact ⟨hx, Nat.le_refl _⟩
theorem row_keep : ∀ (l : List Tr) (f : Nat) (x : St), f < x.n → InSt x → InSt (rowT l f x).2 ∧ x.n ≤ (rowT l f x).2.n ∧ (rowT l f x).1 < (rowT l f x).2.n
  | [], f, x, hf, hx => ⟨hx, Nat.le_refl _, hf⟩
  | t :: l, f, x, hf, hx => by
    obtain ⟨h1, h2⟩ := lay_keep t f x.n x.new (by simp [St.new]; omega) (by simp [St.new]) hx.new
    have h3 : x.n < (layT t f x.n x.new).n := by simp [St.new] at h2 ⊢; omega
    obtain ⟨h4, h5, h6⟩ := row_keep l x.n (layT t f x.n x.new) h3 h1
    rw [rowT]
    exact ⟨h4, by omega, h6⟩
theorem alt_keep : ∀ (l : List Tr), Keep (altT l)
  | [] => fun f t x hf ht hx => ⟨hx, Nat.le_refl _⟩
  | k :: l => by
    intro f t x hf ht hx
    obtain ⟨h1, h2⟩ := lay_keep k f t x hf ht hx
    obtain ⟨h3, h4⟩ := alt_keep l f t (layT k f t x) (by omega) (by omega) h1
    rw [altT]
    exact ⟨h3, by omega⟩
theorem head_keep : ∀ (l : List Tr), Keep (headT l)
  | [] => fun f t x hf ht hx => ⟨hx, Nat.le_refl _⟩
  | k :: _ => lay_keep k
end
/-- what is laid for an expression -/
def built (t : Tr) : St := layT t 0 1 ⟨2, []⟩
theorem built_in (t : Tr) : InSt (built t) ∧ 2 ≤ (built t).n := lay_keep t 0 1 ⟨2, []⟩ (by simp) (by simp) (fun e he => by cases he)
def nfaOf (t : Tr) : nf.Nfa := ⟨(built t).n, 0, 1, (built t).es⟩
theorem built_right (t : Tr) (h : (built t).full = false) : nf.right (nfaOf t) = true := by
  obtain ⟨h1, h2⟩ := built_in t
  simp [St.full] at h
  unfold nf.right nfaOf nf.isSt nf.edOk
  simp only [Bool.and_eq_true, decide_eq_true_eq, List.all_eq_true]
  refine ⟨⟨⟨⟨⟨by omega, by omega⟩, h.2⟩, by omega⟩, by omega⟩, fun e he => ?_⟩
  have := h1 e he
  unfold nf.isSt
  simp only [Bool.and_eq_true, decide_eq_true_eq]
  exact ⟨⟨this.1, this.2.1⟩, this.2.2.1, this.2.2.2⟩
end Go.Proofs.Ytfilndgbgdnpiaa.nb

namespace Go.Proofs.Ytfilndgbgdnpiaa.nb
open Go.ChangeShapes Go.WideShapes Go.ChangeAt Go.RowKit
open st (Tr Q4 nodesOf goods okNode Is)
open nf (Ed)
set_option linter.unusedVariables false
set_option maxRecDepth 100000

def edC (e : Ed) : List Value := [.int .i64 e.fr, .int .i64 e.to, .bool e.free, .int .u64 (e.a : Int), .int .u64 (e.b : Int), .int .u64 (e.c : Int), .int .u64 (e.d : Int)]
def edsC (l : List Ed) : List Value := l.flatMap edC
theorem edsC_snoc (l : List Ed) (e : Ed) : edsC (l ++ [e]) = edsC l ++ edC e := by simp [edsC]
/-- the builder's cell, and the edges that it owns -/
structure Bx (w : World) (B g : Nat) (x : St) (v : Value) : Prop where
  bg : B ≤ g
  blk : w.heap[g]? = some (.cells #[.int .i64 (x.n : Int), .int .i64 0, .int .i64 1, v] 63 (0, 0))
  own : w.ownsRow B 68 7 v x.es.length (edsC x.es)
/-- what laying changes: the builder's cell and its row -/
structure Mv (g : Nat) (v v' : Value) (W W' : World) : Prop where
  os : W'.os = W.os
  tape : W'.tape = W.tape
  output : W'.output = W.output
  size : W.heap.size ≤ W'.heap.size
  block : ∀ j, j < W.heap.size → j ≠ g → some j ≠ v.ownBlock → W'.heap[j]? = W.heap[j]?
  own : ∀ k, v'.ownBlock = some k → v.ownBlock = some k ∨ W.heap.size ≤ k
theorem Mv.refl (g : Nat) (v : Value) (W : World) : Mv g v v W W := ⟨rfl, rfl, rfl, Nat.le_refl _, fun _ _ _ _ => rfl, fun k h => .inl h⟩
theorem Mv.trans {g : Nat} {u v x : Value} {A B C : World} (h : Mv g u v A B) (k : Mv g v x B C) : Mv g u x A C :=
  ⟨k.os.trans h.os, k.tape.trans h.tape, k.output.trans h.output, Nat.le_trans h.size k.size, fun j h1 h2 h3 => by
    rw [← h.block j h1 h2 h3]
    refine k.block j (Nat.lt_of_lt_of_le h1 h.size) h2 fun e => ?_
    rcases h.own j e.symm with e2 | e2
    · exact h3 e2.symm
    · omega, fun j e => by
    rcases k.own j e with e2 | e2
    · exact h.own j e2
    · exact .inr (Nat.le_trans h.size e2)⟩
theorem Mv.of {g : Nat} {v : Value} {W W' : World} (b : Below W.heap.size W W') : Mv g v v W W' := ⟨b.os, b.tape, b.output, b.size, fun j h _ _ => b.block j h, fun k h => .inl h⟩
section
variable {w w' : World} {B g : Nat} {x : St} {v : Value}
theorem Bx.lt (h : Bx w B g x v) : g < w.heap.size := (Array.getElem?_eq_some_iff.1 h.blk).1
theorem Bx.c0 (h : Bx w B g x v) : w.cell? ⟨g, 0, none⟩ = some (.int .i64 (x.n : Int)) := by rw [Lib.cell_of_heap h.blk]; rfl
theorem Bx.c3 (h : Bx w B g x v) : w.cell? ⟨g, 3, none⟩ = some v := by rw [Lib.cell_of_heap h.blk]; rfl
theorem Bx.fz (h : Bx w B g x v) (i : Nat) : w.frozen? ⟨g, i, none⟩ = false := Lib.frozen_of_heap h.blk i
theorem Bx.ne (h : Bx w B g x v) : some g ≠ v.ownBlock := ow.type h.own h.blk (by decide)
theorem Bx.later (h : Bx w B g x v) (b : Below w.heap.size w w') : Bx w' B g x v := ⟨h.bg, (b.block g h.lt).trans h.blk, ow.later h.own b⟩
theorem Bx.form (h : Bx w B g x v) : ∃ o cap, v = .slice o x.es.length cap ∧ cap ≤ 9223372036854775807 := by
  obtain ⟨o, cap, e, _, h2⟩ := ow.form h.own
  exact ⟨o, cap, e, h2⟩
end
def FullIs (x : St) : Prop := ∀ B g v w, Bx w B g x v → Calls Try.prog 28 #[.pointer (some ⟨g, 0, none⟩)] w fun e w' => e = .returned (.bool x.full) ∧ w' = w
theorem full_any (x : St) (hn : x.n ≤ 1000000) (he : x.es.length ≤ 1000000) : FullIs x := by
  intro B g v w h
  have c0 := h.c0
  have c3 := h.c3
  obtain ⟨o, cap, rfl, _⟩ := h.form
  obtain ⟨n, es⟩ := x
  simp only at c0 c3 hn he
  have HE := (show Hid (St.full ⟨n, es⟩ = (decide (2000 < n) || decide (16000 < es.length))) from rfl)
  clear h
  generalize es.length = m at *
  by_cases h1 : 2000 < n
  · have HF := (show Hid (St.full ⟨n, es⟩ = true) from by show _ = _; rw [HE.out]; simp [h1])
    clear HE
    go_enter Try.func28, Try.ntmps28
    go_wp2
    go_ret
    exact ⟨by rw [HF.out]; rfl, rfl⟩
  · have HF := (show Hid (St.full ⟨n, es⟩ = (decide ((2000 : Int) < (n : Int)) || decide ((16000 : Int) < (m : Int)))) from by show _ = _; rw [HE.out]; congr 1 <;> (apply decide_eq_decide.2; omega))
    clear HE
    go_enter Try.func28, Try.ntmps28
    go_wp2
    go_ret
    exact ⟨by rw [HF.out]; rfl, rfl⟩
def StateIs (x : St) : Prop := ∀ B g v w, Bx w B g x v → Calls Try.prog 75 #[.pointer (some ⟨g, 0, none⟩)] w fun e w' => e = .returned (.int .i64 (x.n : Int)) ∧ Bx w' B g x.new v ∧ Mv g v v w w'
theorem state_any (x : St) (hn : x.n ≤ 1000000) : StateIs x := by
  intro B g v w h
  have c0 := h.c0
  have f0 := h.fz 0
  have c1 : (w.setCell ⟨g, 0, none⟩ (.int .i64 ((x.n : Int) + 1))).cell? ⟨g, 0, none⟩ = some (.int .i64 ((x.n : Int) + 1)) := by
    rw [Lib.cell_of_heap (st.set_heap1 w g _ _ 0 _ h.blk)]; rfl
  have HX := (show Hid (Bx (w.setCell ⟨g, 0, none⟩ (.int .i64 ((x.n : Int) + 1))) B g x.new v) from ⟨h.bg, by rw [st.set_heap1 w g _ _ 0 _ h.blk]; rfl, ow.keep h.own fun k hk => Below.heap_setCell _ _ _ k (fun e => h.ne (by have e' : k = g := e; rw [← e']; exact hk.symm))⟩)
  have HM := (show Hid (Mv g v v w (w.setCell ⟨g, 0, none⟩ (.int .i64 ((x.n : Int) + 1)))) from ⟨rfl, rfl, rfl, by simp, fun j _ h2 _ => Below.heap_setCell _ _ _ j (fun e => h2 e), fun k h => .inl h⟩)
  clear h
  go_enter Try.func75, Try.ntmps75
  go_wp2
  go_ret
  exact ⟨by go_num, HX.out, HM.out⟩
theorem info68 : (Try.prog.info? 68).map (fun i => (i.zero, i.size, i.bytes)) = some (some (.agg #[.int .i64 0, .int .i64 0, .bool false, .int .u64 0, .int .u64 0, .int .u64 0, .int .u64 0]), 7, 56) := by kernel_rfl
theorem new7 (W : World) (e : Ed) : ∀ j u, (edC e)[j]? = some u → (W.alloc (.cells (edC e).toArray 68)).cell? ((⟨W.heap.size, 0, none⟩ : Addr).add j) = some u := fun j u hu => by
  have : ((⟨W.heap.size, 0, none⟩ : Addr).add j) = ⟨W.heap.size, 0 + j, none⟩ := by simp [Addr.add]; omega
  rw [this, Nat.zero_add, Lib.cell_of_heap (World.alloc_heap_new W _)]
  simpa using hu
theorem one7 (e : Ed) : ∀ u ∈ edC e, u.oneCell' = true := fun u hu => by
  simp [edC] at hu
  rcases hu with rfl | rfl | rfl | rfl | rfl | rfl | rfl <;> rfl
/-- an edge more -/
theorem Bx.put {w w2 w3 : World} {B g : Nat} {x : St} {v : Value} (h : Bx w B g x v) (c : Below w.heap.size w w2) (e : Ed) {g' cap' : Nat} (ho : w3.ownsRow B 68 7 (.slice (some ⟨g', 0, none⟩) (x.es.length + 1) cap') (x.es.length + 1) (edsC x.es ++ edC e)) (hg : w2.grownBy w3 v.ownBlock) (hw : some g' = v.ownBlock ∨ w2.heap.size ≤ g') :
    (w3.cell? ⟨g, 3, none⟩ = some v ∧ w3.frozen? ⟨g, 3, none⟩ = false) ∧ Bx (w3.setCell ⟨g, 3, none⟩ (.slice (some ⟨g', 0, none⟩) (x.es.length + 1) cap')) B g ⟨x.n, x.es ++ [e]⟩ (.slice (some ⟨g', 0, none⟩) (x.es.length + 1) cap') ∧ Mv g v (.slice (some ⟨g', 0, none⟩) (x.es.length + 1) cap') w (w3.setCell ⟨g, 3, none⟩ (.slice (some ⟨g', 0, none⟩) (x.es.length + 1) cap')) := by
  have b3 : w3.heap[g]? = some (.cells #[.int .i64 (x.n : Int), .int .i64 0, .int .i64 1, v] 63 (0, 0)) := (hg.block g (Nat.lt_of_lt_of_le h.lt c.size) h.ne).trans ((c.block g h.lt).trans h.blk)
  have nb : some g ≠ (Value.slice (some ⟨g', 0, none⟩) (x.es.length + 1) cap').ownBlock := ow.type ho b3 (by decide)
  refine ⟨⟨by rw [Lib.cell_of_heap b3]; rfl, Lib.frozen_of_heap b3 3⟩, ⟨h.bg, by rw [st.set_heap1 w3 g _ _ 3 _ b3]; rfl, ?_⟩, ⟨hg.os.trans c.os, hg.tape.trans c.tape, hg.output.trans c.output, by have := c.size; have := hg.size; simp; omega, fun j h1 h2 h3 => ?_, fun k e2 => ?_⟩⟩
  · rw [edsC_snoc, List.length_append]
    exact ow.keep ho fun k hk => Below.heap_setCell _ _ _ k (fun e2 => nb (by have e' : k = g := e2; rw [← e']; exact hk.symm))
  · rw [Below.heap_setCell _ _ _ j (fun e2 => h2 e2), hg.block j (Nat.lt_of_lt_of_le h1 c.size) h3, c.block j h1]
  · have e3 : g' = k := by simpa [Value.ownBlock] using e2
    subst e3
    rcases hw with e4 | e4
    · exact .inl e4.symm
    · exact .inr (Nat.le_trans c.size e4)
def FreeIs (x : St) (f t : Nat) : Prop := ∀ B g v w, Bx w B g x v → B ≤ w.heap.size → Calls Try.prog 49 #[.pointer (some ⟨g, 0, none⟩), .int .i64 (f : Int), .int .i64 (t : Int)] w fun e w' => e = .returned (.tuple #[]) ∧ ∃ v', Bx w' B g (x.free f t) v' ∧ Mv g v v' w w'
theorem free_any (x : St) (f t : Nat) (he : x.es.length ≤ 1000000) : FreeIs x f t := by
  intro B g v w h hB
  have c3 := h.c3
  go_enter Try.func49, Try.ntmps49
  go_wp2_with (at_builtin; refine ow.wpList_append rfl _ _ 29 rfl 68 _ 7 56 Try.underlying29 info68 rfl (by decide) (by decide) B v x.es.length (edsC x.es) w.heap.size (edC ⟨f, t, true, 0, 0, 0, 0⟩) rfl rfl (ow.later h.own ((Below.refl _ _).alloc (Nat.le_refl _) _)) rfl (new7 w _) (one7 _) he (by simp; omega) ?_; intro g' cap' w3 ho hg hw; obtain ⟨⟨k1, k2⟩, k3, k4⟩ := h.put ((Below.refl _ _).alloc (Nat.le_refl _) _) ⟨f, t, true, 0, 0, 0, 0⟩ ho hg hw)
  go_end0
  exact ⟨rfl, _, k3, k4⟩
end Go.Proofs.Ytfilndgbgdnpiaa.nb

namespace Go.Proofs.Ytfilndgbgdnpiaa.nb
open Go.ChangeShapes Go.WideShapes Go.ChangeAt Go.RowKit
open st (Tr Q4 nodesOf goods okNode Is)
open nf (Ed)
set_option linter.unusedVariables false
set_option maxRecDepth 100000

def OverIs (x : St) (q : Q4) (f t : Nat) : Prop := ∀ B g v w, Bx w B g x v → B ≤ w.heap.size → Calls Try.prog 48 #[.pointer (some ⟨g, 0, none⟩), .agg #[.int .u64 (q.a : Int), .int .u64 (q.b : Int), .int .u64 (q.c : Int), .int .u64 (q.d : Int)], .int .i64 (f : Int), .int .i64 (t : Int)] w fun e w' => e = .returned (.tuple #[]) ∧ ∃ v', Bx w' B g (x.over q f t) v' ∧ Mv g v v' w w'
set_option maxHeartbeats 1000000 in
theorem over_any (x : St) (q : Q4) (f t : Nat) (he : x.es.length ≤ 1000000) : OverIs x q f t := by
  intro B g v w h hB
  obtain ⟨w1, hw1⟩ : ∃ w1, w1 = w.alloc (.cells #[.int .u64 (q.a : Int), .int .u64 (q.b : Int), .int .u64 (q.c : Int), .int .u64 (q.d : Int)] 25) := ⟨_, rfl⟩
  have hb1 : Below w.heap.size w w1 := by rw [hw1]; exact (Below.refl _ _).alloc (Nat.le_refl _) _
  have HX := (show Hid (Bx w1 B g x v) from h.later hb1)
  have c3 := HX.out.c3
  have hB1 : B ≤ w1.heap.size := Nat.le_trans hB hb1.size
  have b5 : w1.heap[w.heap.size]? = some (.cells #[.int .u64 (q.a : Int), .int .u64 (q.b : Int), .int .u64 (q.c : Int), .int .u64 (q.d : Int)] 25 (0, 0)) := by rw [hw1]; exact heap_alloc_new w _
  have d0 : w1.cell? ⟨w.heap.size, 0, none⟩ = some (.int .u64 (q.a : Int)) := by rw [Lib.cell_of_heap b5]; rfl
  have d1 : w1.cell? ⟨w.heap.size, 1, none⟩ = some (.int .u64 (q.b : Int)) := by rw [Lib.cell_of_heap b5]; rfl
  have d2 : w1.cell? ⟨w.heap.size, 2, none⟩ = some (.int .u64 (q.c : Int)) := by rw [Lib.cell_of_heap b5]; rfl
  have d3 : w1.cell? ⟨w.heap.size, 3, none⟩ = some (.int .u64 (q.d : Int)) := by rw [Lib.cell_of_heap b5]; rfl
  have HM := (show Hid (Mv g v v w w1) from Mv.of hb1)
  clear h hb1 b5
  go_enter Try.func48, Try.ntmps48
  go_wp2_with (fail)
  rw [← hw1]
  clear hw1
  have c3' := (HX.out.later ((Below.refl _ _).alloc (Nat.le_refl _) (.cells #[.int .i64 (f : Int), .int .i64 (t : Int), .bool false, .int .u64 (q.a : Int), .int .u64 (q.b : Int), .int .u64 (q.c : Int), .int .u64 (q.d : Int)] 68))).c3
  go_region_law (first | (refine ow.step_append (by rfl) (.tmp 13) (.tmp 18) 29 (by rfl) 68 _ 7 56 Try.underlying29 info68 rfl (by decide) (by decide) B v x.es.length (edsC x.es) w1.heap.size (edC ⟨f, t, false, q.a, q.b, q.c, q.d⟩) (by rfl) (by rfl) (ow.later HX.out.own (Below.drew ((Below.refl _ _).alloc (Nat.le_refl _) _))) rfl (new7 w1 _) (one7 _) he (by simp; omega) ?_; intro g' cap' w3 ho hg hw; obtain ⟨⟨k1, k2⟩, k3, k4⟩ := HX.out.put (Below.drew ((Below.refl _ _).alloc (Nat.le_refl _) _)) ⟨f, t, false, q.a, q.b, q.c, q.d⟩ ho hg hw))
  all_goals
    go_end0
    exact ⟨rfl, _, k3, HM.out.trans k4⟩
end Go.Proofs.Ytfilndgbgdnpiaa.nb

namespace Go.Proofs.Ytfilndgbgdnpiaa.nb
open Go.ChangeShapes Go.WideShapes Go.ChangeAt Go.RowKit
open st (Tr Q4 nodesOf goods okNode Is Box)
open nf (Ed)
set_option linter.unusedVariables false
set_option maxRecDepth 100000

abbrev trV (t : Tr) (v : Value) : Value := .agg #[.int .i64 t.kind, .int .u64 t.set.a, .int .u64 t.set.b, .int .u64 t.set.c, .int .u64 t.set.d, .int .i64 t.min, .int .i64 t.max, v]
/-- room for a tree -/
structure Room (t : Tr) (a : Nat) : Prop where
  lo : 16000 ≤ a
  nd : t.nodes ≤ 512
  hi : a + 16000 * t.depth ≤ 900000
def LayIs (t : Tr) : Prop := ∀ (f to : Nat) (x : St) (a : Nat), Most x a a → Room t a → ∀ B g v w tv, Bx w B g x v → B ≤ w.heap.size → Is w (· < B) t tv →
  Calls Try.prog 27 #[.pointer (some ⟨g, 0, none⟩), trV t tv, .int .i64 (f : Int), .int .i64 (to : Int)] w fun e w' => e = .returned (.tuple #[]) ∧ ∃ v', Bx w' B g (layT t f to x) v' ∧ Mv g v v' w w'
def OneIs (t : Tr) : Prop := ∀ (f : Nat) (x : St) (a : Nat), Most x.new a a → Room t a → ∀ B g v w tv, Bx w B g x v → B ≤ w.heap.size → Is w (· < B) t tv →
  Calls Try.prog 74 #[.pointer (some ⟨g, 0, none⟩), trV t tv, .int .i64 (f : Int)] w fun e w' => e = .returned (.int .i64 (x.n : Int)) ∧ ∃ v', Bx w' B g (layT t f x.n x.new) v' ∧ Mv g v v' w w'
theorem info28 : (Try.prog.info? 28).map (·.size) = some 8 := by kernel_rfl
theorem is_mv {w w' : World} {B g : Nat} {x : St} {v v' : Value} {t : Tr} {tv : Value} (h : Is w (· < B) t tv) (hx : Bx w B g x v) (hB : B ≤ w.heap.size) (m : Mv g v v' w w') : Is w' (· < B) t tv :=
  h.carry m.size (fun _ p _ => p) (fun b p hlt => m.block b hlt (by have := hx.bg; omega) (fun e => by have := (ow.lt hx.own e.symm).1; omega))
theorem box_mv {w w' : World} {B g k : Nat} {x : St} {v v' : Value} {t : Tr} {tv : Value} (h : Box w k t tv) (hx : Bx w B g x v) (m : Mv g v v' w w') : Box w' k t tv := by
  unfold Box at h ⊢
  rw [m.block k (Array.getElem?_eq_some_iff.1 h).1 (fun e => by subst e; rw [hx.blk] at h; simp at h) (ow.type hx.own h (by decide))]
  exact h
set_option maxHeartbeats 1000000 in
theorem one_any (t : Tr) (hL : LayIs t) : OneIs t := by
  intro f x a hm hr B g v w tv hx hB ht
  obtain ⟨w1, hw1⟩ : ∃ w1, w1 = w.alloc (.cells #[.int .i64 t.kind, .int .u64 t.set.a, .int .u64 t.set.b, .int .u64 t.set.c, .int .u64 t.set.d, .int .i64 t.min, .int .i64 t.max, tv] 28) := ⟨_, rfl⟩
  have b1 : Below w.heap.size w w1 := by rw [hw1]; exact (Below.refl _ _).alloc (Nat.le_refl _) _
  have bx1 : Box w1 w.heap.size t tv := by rw [hw1]; exact st.box_new w t tv
  have hx1 := hx.later b1
  have hB1 : B ≤ w1.heap.size := Nat.le_trans hB b1.size
  have ht1 := is_mv ht hx hB (Mv.of (g := g) (v := v) b1)
  have HM := (show Hid (Mv g v v w w1) from Mv.of b1)
  have hlo := hr.lo
  have hhi := hr.hi
  have hn : x.n ≤ 1000000 := by have := hm.n; simp [St.new] at this; omega
  have h75 := state_any x hn B g v w1 hx1
  have HL := (show Hid (∀ W, Bx W B g x.new v → Mv g v v w1 W → Calls Try.prog 27 #[.pointer (some ⟨g, 0, none⟩), trV t tv, .int .i64 (f : Int), .int .i64 (x.n : Int)] W fun e w' => e = .returned (.tuple #[]) ∧ ∃ v', Bx w' B g (layT t f x.n x.new) v' ∧ Mv g v v' W w') from fun W h m => hL f x.n x.new a hm hr B g v W tv h (Nat.le_trans hB1 m.size) (is_mv ht1 hx1 hB1 m))
  have HB := (show Hid (∀ W, Mv g v v w1 W → Box W w.heap.size t tv) from fun W m => box_mv bx1 hx1 m)
  clear ht ht1 hx hm hr b1 bx1 hx1
  go_enter Try.func74, Try.ntmps74
  go_wp2_with (first | (go_at_call 75; (try rw [← hw1]); refine h75.mono ?_; rintro e w2 ⟨rfl, hx2, m2⟩; clear h75; have b2 := HB.out w2 m2; have c27 := HL.out w2 hx2 m2) | (refine wpList_load_row rfl 28 (.tmp 4) rfl w.heap.size rfl 28 _ (0, 0) _ b2 Try.underlying28 rfl info28 ?_) | (go_at_call 27; refine c27.mono ?_; rintro e w3 ⟨rfl, v3, hx3, m3⟩))
  go_ret
  exact ⟨rfl, v3, hx3, HM.out.trans (m2.trans m3)⟩
end Go.Proofs.Ytfilndgbgdnpiaa.nb
