/-
  Contracts over this program: what a letter behind a backslash is written for, as the document has it (fretsawref06's kind, as a whole), and what stands between the rounds of its class.
-/
import Derived.Test.YtjfnefmolhihaaaQf
import Derived.Test.YtjfnefmolhihaaaQi
namespace Go.Proofs.Ytjfnefmolhihaaa.st
open Go.Sort Go.ChangeShapes Go.WideShapes Go.ChangeAt Go.RowKit
set_option linter.unusedVariables false

theorem q4_ext {p q : Q4} (h1 : p.a = q.a) (h2 : p.b = q.b) (h3 : p.c = q.c) (h4 : p.d = q.d) : p = q := by cases p; cases q; simp_all
theorem eqD : rng 48 57 = digitSet := q4_ext (by decide +kernel) (by decide +kernel) (by decide +kernel) (by decide +kernel)
theorem eqW : jn (jn digitSet (rng 65 90)) (jn (rng 97 122) (ofl [95])) = wordSet := q4_ext (by decide +kernel) (by decide +kernel) (by decide +kernel) (by decide +kernel)
theorem knd_of (c : Int) (q : Q4) (r : Bool) (hk : (c = 100 ∧ digitSet = q ∧ true = r) ∨ (c = 68 ∧ nt digitSet = q ∧ true = r) ∨ (c = 119 ∧ wordSet = q ∧ true = r) ∨ (c = 87 ∧ nt wordSet = q ∧ true = r) ∨ (c = 115 ∧ blankSet = q ∧ true = r) ∨ (c = 83 ∧ nt blankSet = q ∧ true = r) ∨ ((c ≠ 100 ∧ c ≠ 68 ∧ c ≠ 119 ∧ c ≠ 87 ∧ c ≠ 115 ∧ c ≠ 83) ∧ none4 = q ∧ false = r)) : KndIs c q r := by
  have f1 : Fits (rng 65 90) := fits_rng _ _
  have f2 : Fits (rng 97 122) := fits_rng _ _
  have f3 : Fits (ofl [95]) := fits_ofl _
  exact knd (rng 65 90) (rng 97 122) (ofl [95]) digitSet (jn digitSet (rng 65 90)) (jn (rng 97 122) (ofl [95])) wordSet blankSet
    (sp.rrange_any 48 57 (by decide) (by decide) _ eqD.symm) (sp.rrange_any 65 90 (by decide) (by decide) _ rfl) (sp.rrange_any 97 122 (by decide) (by decide) _ rfl) (sp.rof_any ⟨#[95]⟩ (by decide) _ rfl)
    (sp.rjoin_any _ _ _ fits_digit f1 rfl) (sp.rjoin_any _ _ _ f2 f3 rfl) (sp.rjoin_any _ _ _ (fits_jn fits_digit f1) (fits_jn f2 f3) eqW.symm) (sp.rof_any ⟨#[9, 10, 11, 12, 13, 32]⟩ (by decide) _ rfl)
    (nt digitSet) (nt wordSet) (nt blankSet) (sp.rnot_any _ _ fits_digit rfl) (sp.rnot_any _ _ fits_word rfl) (sp.rnot_any _ _ fits_blank rfl) c q r hk
theorem knd_nat (c : Nat) : (∃ q, kindOf c = some q ∧ Fits q ∧ KndIs c q true) ∨ (kindOf c = none ∧ KndIs c none4 false) := by
  unfold kindOf
  by_cases h1 : c = 100
  · subst h1; exact .inl ⟨digitSet, rfl, fits_digit, knd_of _ _ _ (.inl ⟨rfl, rfl, rfl⟩)⟩
  by_cases h2 : c = 119
  · subst h2; exact .inl ⟨wordSet, rfl, fits_word, knd_of _ _ _ (.inr (.inr (.inl ⟨rfl, rfl, rfl⟩)))⟩
  by_cases h3 : c = 115
  · subst h3; exact .inl ⟨blankSet, rfl, fits_blank, knd_of _ _ _ (.inr (.inr (.inr (.inr (.inl ⟨rfl, rfl, rfl⟩)))))⟩
  by_cases h4 : c = 68
  · subst h4; exact .inl ⟨nt digitSet, rfl, fits_nt _, knd_of _ _ _ (.inr (.inl ⟨rfl, rfl, rfl⟩))⟩
  by_cases h5 : c = 87
  · subst h5; exact .inl ⟨nt wordSet, rfl, fits_nt _, knd_of _ _ _ (.inr (.inr (.inr (.inl ⟨rfl, rfl, rfl⟩))))⟩
  by_cases h6 : c = 83
  · subst h6; exact .inl ⟨nt blankSet, rfl, fits_nt _, knd_of _ _ _ (.inr (.inr (.inr (.inr (.inr (.inl ⟨rfl, rfl, rfl⟩))))))⟩
  · refine .inr ⟨by simp only [h1, h2, h3, h4, h5, h6, if_false], knd_of _ _ _ (.inr (.inr (.inr (.inr (.inr (.inr ⟨⟨by omega, by omega, by omega, by omega, by omega, by omega⟩, rfl, rfl⟩))))))⟩
theorem knd_end : KndIs (-1) none4 false := knd_of _ _ _ (.inr (.inr (.inr (.inr (.inr (.inr ⟨⟨by omega, by omega, by omega, by omega, by omega, by omega⟩, rfl, rfl⟩))))))

/-- what stands between two steps of class -/
structure Cst (w V : World) (u : ByteArray) (g j o b a gA : Nat) (q : Q4) : Prop where
  pb : Pb V g u j o b a
  set : sp.Blk V gA q
  zero : Box V w.heap.size Tr.zero (.slice none 0 0)
  t : w.grownBy V (some g)
section
variable {w V V' : World} {u : ByteArray} {g j o b a gA j' b' a' : Nat} {q : Q4}
theorem Cst.call (h : Cst w V u g j o b a gA q) (hg : g < w.heap.size) (hA : w.heap.size < gA) (pb : Pb V' g u j' o b' a') (t : V.grownBy V' (some g)) : Cst w V' u g j' o b' a' gA q :=
  ⟨pb, h.set.other t (by omega), Box.keep h.zero t (by omega), touch_trans h.t t⟩
theorem Cst.later (h : Cst w V u g j o b a gA q) (t : RowKit.Below V.heap.size V V') : Cst w V' u g j o b a gA q :=
  ⟨h.pb.later t, h.set.later t, h.zero.below t, touch_trans h.t (touch_below _ t)⟩
theorem Cst.put (h : Cst w V u g j o b a gA q) (hg : g < w.heap.size) (hA : w.heap.size < gA) (r : Q4) : Cst w ((((V.setCell ⟨gA, 0, none⟩ (.int .u64 r.a)).setCell ⟨gA, 1, none⟩ (.int .u64 r.b)).setCell ⟨gA, 2, none⟩ (.int .u64 r.c)).setCell ⟨gA, 3, none⟩ (.int .u64 r.d)) u g j o b a gA r :=
  ⟨h.pb.other (touch_set4 _ _ r) (by omega), sp.set4 h.set r, Box.keep h.zero (touch_set4 _ _ r) (by omega), touch_over h.t (touch_set4 _ _ r) (by omega)⟩
theorem Cst.drew (h : Cst w V u g j o b a gA q) : Cst w V.drew u g j o b a gA q := ⟨h.pb, h.set, h.zero, touch_drew h.t⟩
theorem Cst.move (h : Cst w V u g j o b a gA q) (hg : g < w.heap.size) (hA : w.heap.size < gA) (k : Nat) : Cst w (V.setCell ⟨g, 1, none⟩ (.int .i64 k)) u g k o b a gA q := h.call hg hA (h.pb.set1 k) (touch_cell _ _ _ _)
end

/-- where the reader is, and whether something was wrong -/
def pl (V : World) (g : Nat) : Nat := match V.cell? ⟨g, 1, none⟩ with | some (.int _ n) => n.toNat | _ => 0
def bd (V : World) (g : Nat) : Nat := match V.cell? ⟨g, 3, none⟩ with | some (.int _ n) => n.toNat | _ => 0
theorem Pb.pl {V : World} {u : ByteArray} {g j o b a : Nat} (h : Pb V g u j o b a) : pl V g = j := by unfold st.pl; rw [h.c1]; rfl
theorem Pb.bd {V : World} {u : ByteArray} {g j o b a : Nat} (h : Pb V g u j o b a) : bd V g = b := by unfold st.bd; rw [h.c3]; rfl
def left (n : Nat) (V : World) (g : Nat) : Nat := 2 * (n - pl V g) + (if bd V g = 0 then 1 else 0)

/-- what is still to be read of a class -/
def ClsRel (u : ByteArray) (a j0 : Nat) (fin : Q4 → List Nat → R Q4) (res : R Q4) (k : Nat) (q : Q4) (j b at_ : Nat) : Prop :=
  (b = 0 ∧ at_ = a ∧ ((k = 0 ∧ q = none4 ∧ j = j0) ∨ (0 < k ∧ ∃ n, u.size - j < n ∧ res = (parts n q (suf u j)).then fin))) ∨ (b ≠ 0 ∧ at_ ≤ u.size ∧ res = .bad b (suf u at_))
theorem jn_none (r : Q4) (h : Fits r) : jn none4 r = r := by
  cases r
  simp [jn, none4, mk4, word]
theorem cls_ok {u : ByteArray} {a j0 : Nat} {fin : Q4 → List Nat → R Q4} {res : R Q4} {k : Nat} {q r : Q4} {j j' : Nat} (hres : res = (part (suf u j0)).then fun q l1 => (parts (l1.length + 1) q l1).then fin) (hf : Fits r)
    (h : ClsRel u a j0 fin res k q j 0 a) (hs : k = 0 ∨ sees [93] (suf u j) = false) (hj : j < j') (hj2 : j' ≤ u.size) (hp : part (suf u j) = .ok r (suf u j')) : ClsRel u a j0 fin res (k + 1) (jn q r) j' 0 a := by
  rcases h with ⟨_, _, ⟨rfl, rfl, rfl⟩ | ⟨hk, n, hn, hr⟩⟩ | ⟨h, _⟩
  · refine .inl ⟨rfl, rfl, .inr ⟨by omega, u.size - j' + 1, by omega, ?_⟩⟩
    rw [hres, hp, jn_none r hf]
    simp only [R.then, suf_length]
  · obtain ⟨n, rfl⟩ : ∃ m, n = m + 1 := ⟨n - 1, by omega⟩
    have hs2 : sees [93] (suf u j) = false := by rcases hs with h | h; omega; exact h
    refine .inl ⟨rfl, rfl, .inr ⟨by omega, n, by omega, ?_⟩⟩
    rw [hr, parts, hs2, hp]
    rfl
  · exact absurd rfl h
theorem cls_bad {u : ByteArray} {a j0 : Nat} {fin : Q4 → List Nat → R Q4} {res : R Q4} {k : Nat} {q r : Q4} {j j' b' a' : Nat} (hres : res = (part (suf u j0)).then fun q l1 => (parts (l1.length + 1) q l1).then fin)
    (h : ClsRel u a j0 fin res k q j 0 a) (hs : k = 0 ∨ sees [93] (suf u j) = false) (hb : b' ≠ 0) (ha : a' ≤ u.size) (hp : part (suf u j) = .bad b' (suf u a')) : ClsRel u a j0 fin res (k + 1) r j' b' a' := by
  rcases h with ⟨_, _, ⟨rfl, rfl, rfl⟩ | ⟨hk, n, hn, hr⟩⟩ | ⟨h, _⟩
  · refine .inr ⟨hb, ha, ?_⟩
    rw [hres, hp]
    rfl
  · obtain ⟨n, rfl⟩ : ∃ m, n = m + 1 := ⟨n - 1, by omega⟩
    have hs2 : sees [93] (suf u j) = false := by rcases hs with h | h; omega; exact h
    refine .inr ⟨hb, ha, ?_⟩
    rw [hr, parts, hs2, hp]
    rfl
  · exact absurd rfl h
theorem cls_fin {u : ByteArray} {a j0 : Nat} {fin : Q4 → List Nat → R Q4} {res : R Q4} {k : Nat} {q : Q4} {j lo hi j' b' a' : Nat} (hres : res = (part (suf u j0)).then fun q l1 => (parts (l1.length + 1) q l1).then fin)
    (h : ClsRel u a j0 fin res k q j 0 a) (hs : k = 0 ∨ sees [93] (suf u j) = false) (hF : FinP u j a lo hi j' b' a') : ClsRel u a j0 fin res (k + 1) (jn q (rng lo hi)) j' b' a' := by
  obtain ⟨h1, h2, ⟨rfl, rfl, h3, h4⟩ | ⟨h3, h4, h5⟩⟩ := hF
  · exact cls_ok hres (fits_rng _ _) h hs h3 h2 h4
  · exact cls_bad hres h hs h3 h4 h5
theorem left_less {n : Nat} {V wr : World} {u : ByteArray} {g j j' o b' a' : Nat} (hl : left n wr g = 2 * (n - j) + (if (0 : Nat) = 0 then 1 else 0)) (pb : Pb V g u j' o b' a') (h1 : j ≤ j') (h2 : j' ≤ n) (h3 : b' = 0 → j < j') : left n V g < left n wr g := by
  rw [hl]
  unfold left
  rw [pb.pl, pb.bd]
  simp only [if_true]
  split
  · rename_i h
    have := h3 h
    omega
  · omega
theorem FinP.less {u : ByteArray} {j a lo hi j' b' a' : Nat} (h : FinP u j a lo hi j' b' a') : b' = 0 → j < j' := by
  obtain ⟨h1, h2, ⟨rfl, rfl, h3, h4⟩ | ⟨h3, h4, h5⟩⟩ := h
  · exact fun _ => h3
  · exact fun h => absurd h h3
end Go.Proofs.Ytjfnefmolhihaaa.st
