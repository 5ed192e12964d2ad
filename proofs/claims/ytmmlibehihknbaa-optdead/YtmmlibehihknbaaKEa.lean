/-
  Plain: signs in a linked list, and the pile of their pairs: what a join does, what the least pair is.
-/
import Derived.Test.YtmmlibehihknbaaM02
import Derived.Test.YtmmlibehihknbaaM05
namespace Go.Proofs.Ytmmlibehihknbaa.en
open mg (Mg rk pr lst lst_at lst_none nx joinAt joinAt_len joinAt_get app app_some app_none InR AllIn)
open pp (Pr plt)
set_option linter.unusedVariables false

structure Sg where
  id : Int
  before : Int
  after : Int
  rank : Int
abbrev pl (ps : List Nat) (i : Nat) : Nat := ps.getD i 0
def prevOf (ps : List Nat) (i : Nat) : Int := if i = 0 then -1 else (pl ps (i - 1) : Int)
def nextOf (ps : List Nat) (i : Nat) : Int := if i + 1 < ps.length then (pl ps (i + 1) : Int) else -1
structure Lk (S : List Sg) (ps : List Nat) (ids : List Int) : Prop where
  len : ps.length = ids.length
  inc : ∀ i j, i < j → j < ps.length → pl ps i < pl ps j
  bnd : ∀ i, i < ps.length → pl ps i < S.length
  at' : ∀ i, i < ps.length → ∃ s, S[pl ps i]? = some s ∧ ids.getD i 0 = s.id ∧ s.before = prevOf ps i ∧ s.after = nextOf ps i
def rkI (K : List Mg) (ids : List Int) (i : Nat) : Int := if rk K ids i < 1024 then (rk K ids i : Int) else -1
def lookR (K : List Mg) (x y : Int) : Int := if (x, y) ∈ K then (K.idxOf (x, y) : Int) else -1
theorem rkI_in {K : List Mg} (hK : K.length ≤ 1024) {ids : List Int} {i : Nat} (h : i + 1 < ids.length) : rkI K ids i = lookR K (ids.getD i 0) (ids.getD (i + 1) 0) := by
  unfold rkI lookR rk pr
  rw [if_pos h]
  by_cases hm : (ids.getD i 0, ids.getD (i + 1) 0) ∈ K
  · have := List.idxOf_lt_length_of_mem hm
    rw [if_pos hm, if_pos hm, if_pos (by omega)]
  · rw [if_neg hm, if_neg hm, if_neg (by omega)]
theorem rkI_last {K : List Mg} {ids : List Int} {i : Nat} (h : ¬ i + 1 < ids.length) : rkI K ids i = -1 := by
  unfold rkI rk
  rw [if_neg h, if_neg (by omega)]
theorem rkI_nat {K : List Mg} {ids : List Int} {i : Nat} {r : Int} (h : rkI K ids i = r) (h0 : r ≠ -1) : rk K ids i < 1024 ∧ r = (rk K ids i : Int) := by
  unfold rkI at h
  split at h
  · rename_i h1; exact ⟨h1, h.symm⟩
  · omega
theorem look_ge (K : List Mg) (x y : Int) : lookR K x y = -1 ∨ 0 ≤ lookR K x y := by
  unfold lookR
  split
  · right; omega
  · exact .inl rfl
theorem inj {S : List Sg} {ps : List Nat} {ids : List Int} (h : Lk S ps ids) {i j : Nat} (hi : i < ps.length) (hj : j < ps.length) (e : pl ps i = pl ps j) : i = j := by
  rcases Nat.lt_trichotomy i j with h1 | h1 | h1
  · have := h.inc i j h1 hj; omega
  · exact h1
  · have := h.inc j i h1 hi; omega

theorem plt_no {a1 a2 b1 b2 : Int} (h : plt (a1, a2) (b1, b2) = false) : b1 ≤ a1 ∧ (a1 = b1 → b2 ≤ a2) := by
  simp [plt] at h
  omega
/-- all that holds between two steps -/
structure Inv (K : List Mg) (S : List Sg) (ps : List Nat) (ids : List Int) (L : List Pr) : Prop where
  lk : Lk S ps ids
  rank : ∀ i, i < ps.length → ∀ s, S[pl ps i]? = some s → s.rank = rkI K ids i
  dead : ∀ p s, S[p]? = some s → (∀ i, i < ps.length → pl ps i ≠ p) → s.rank = -1
  pile : ∀ i, i < ps.length → rkI K ids i ≠ -1 → (rkI K ids i, (pl ps i : Int)) ∈ L
  pok : ∀ x ∈ L, 0 ≤ x.1 ∧ ∃ p : Nat, x.2 = (p : Int) ∧ p < S.length
  first : 0 < ps.length → pl ps 0 = 0
/-- the least pair that is there is the next one to be merged -/
theorem Inv.next {K : List Mg} {S : List Sg} {ps : List Nat} {ids : List Int} {L : List Pr} (h : Inv K S ps ids L) {r : Int} {p : Nat} {s : Sg} (hx : (r, (p : Int)) ∈ L) (hmin : ∀ y ∈ L, plt y (r, (p : Int)) = false) (hs : S[p]? = some s) (hr : s.rank = r) : ∃ i k : Nat, i < ps.length ∧ pl ps i = p ∧ r = (k : Int) ∧ rkI K ids i = r ∧ nx K ids = some (i, k) := by
  have hr0 := (h.pok _ hx).1
  have hal : ∃ i, i < ps.length ∧ pl ps i = p := by
    apply Classical.byContradiction
    intro hn
    have := h.dead p s hs (fun i hi e => hn ⟨i, hi, e⟩)
    simp at hr0
    omega
  obtain ⟨i, hi, rfl⟩ := hal
  have hri : rkI K ids i = r := by rw [← h.rank i hi s hs]; exact hr
  obtain ⟨h1, h2⟩ := rkI_nat hri (by simp at hr0; omega)
  refine ⟨i, rk K ids i, hi, rfl, h2, hri, ?_⟩
  have hll := h.lk.len
  have key : ∀ j, j < ids.length → rk K ids j < 1024 → plt ((rk K ids j : Int), (pl ps j : Int)) (r, (pl ps i : Int)) = false := fun j hj hlt => by
    have e : rkI K ids j = (rk K ids j : Int) := by unfold rkI; rw [if_pos hlt]
    have := h.pile j (by omega) (by rw [e]; omega)
    rw [e] at this
    exact hmin _ this
  have hl := lst_at (rk K ids) ids.length i (by omega) h1 (fun j hj => by
    by_cases hlt : rk K ids j < 1024
    · have := plt_no (key j hj hlt)
      omega
    · omega) (fun j hj => by
    by_cases hlt : rk K ids j < 1024
    · have := plt_no (key j (by omega) hlt)
      have h3 := h.lk.inc j i hj hi
      omega
    · omega)
  unfold nx
  rw [hl]
  simp
/-- nothing is left in the pile: all is merged -/
theorem Inv.done {K : List Mg} {S : List Sg} {ps : List Nat} {ids : List Int} (h : Inv K S ps ids []) : nx K ids = none := by
  have hll := h.lk.len
  have hl := lst_none (rk K ids) ids.length (fun i hi => by
    apply Classical.byContradiction
    intro hn
    have e : rkI K ids i = (rk K ids i : Int) := by unfold rkI; rw [if_pos (by omega)]
    have := h.pile i (by omega) (by rw [e]; omega)
    cases this)
  unfold nx
  rw [hl]
  simp
/-- a pair that is not there any more is put away -/
theorem Inv.drop {K : List Mg} {S : List Sg} {ps : List Nat} {ids : List Int} {L L' : List Pr} (h : Inv K S ps ids L) {r : Int} {p : Nat} {s : Sg} (hp : L.Perm ((r, (p : Int)) :: L')) (hs : S[p]? = some s) (hr : s.rank ≠ r) : Inv K S ps ids L' := by
  refine ⟨h.lk, h.rank, h.dead, fun i hi h0 => ?_, fun x hx => h.pok x (hp.symm.subset (List.mem_cons_of_mem _ hx)), h.first⟩
  have := hp.subset (h.pile i hi h0)
  rcases List.mem_cons.1 this with e | e
  · exfalso
    obtain ⟨e1, e2⟩ := Prod.mk.inj e
    have e3 : pl ps i = p := by omega
    have := h.rank i hi s (by rw [e3]; exact hs)
    exact hr (by rw [this, e1])
  · exact e

theorem erase_get (ps : List Nat) (k j : Nat) : pl (ps.eraseIdx k) j = if j < k then pl ps j else pl ps (j + 1) := by
  unfold pl
  rw [List.getD_eq_getElem?_getD, List.getElem?_eraseIdx, List.getD_eq_getElem?_getD, List.getD_eq_getElem?_getD]
  split <;> rfl
theorem erase_len (ps : List Nat) (k : Nat) (h : k < ps.length) : (ps.eraseIdx k).length + 1 = ps.length := by
  rw [List.length_eraseIdx_of_lt h]; omega
theorem rk_low {K : List Mg} {ids : List Int} {i k j : Nat} (h : i + 1 < ids.length) (hj : j + 1 < i) : rkI K (joinAt ids i k) j = rkI K ids j := by
  have hl := joinAt_len ids i k h
  have : rk K (joinAt ids i k) j = rk K ids j := by
    unfold rk
    rw [if_pos (by omega), if_pos (by omega), joinAt_get _ _ _ _ h, joinAt_get _ _ _ _ h, if_pos (by omega), if_pos hj]
  unfold rkI
  rw [this]
theorem rk_high {K : List Mg} {ids : List Int} {i k j : Nat} (h : i + 1 < ids.length) (hj : i < j) : rkI K (joinAt ids i k) j = rkI K ids (j + 1) := by
  have hl := joinAt_len ids i k h
  have : rk K (joinAt ids i k) j = rk K ids (j + 1) := by
    unfold rk
    by_cases h1 : j + 1 < (joinAt ids i k).length
    · rw [if_pos h1, if_pos (by omega), joinAt_get _ _ _ _ h, joinAt_get _ _ _ _ h, if_neg (by omega), if_neg (by omega), if_neg (by omega), if_neg (by omega)]
    · rw [if_neg h1, if_neg (by omega)]
  unfold rkI
  rw [this]

/-- what a join does to the signs, ahead of looking: the first becomes the merge, the second is gone, the third has another one before it -/
def S1 (S : List Sg) (a : Nat) (s : Sg) (k : Nat) (nx : Int) : List Sg := S.set a { s with id := 256 + (k : Int), after := nx }
def S2 (S : List Sg) (a : Nat) (s : Sg) (k : Nat) (q : Nat) (g : Sg) : List Sg := (S1 S a s k g.after).set q { g with rank := -1 }
def S3 (S : List Sg) (a : Nat) (s : Sg) (k : Nat) (q : Nat) (g : Sg) (c : Option (Nat × Sg)) : List Sg := match c with
  | none => S2 S a s k q g
  | some (c, t) => (S2 S a s k q g).set c { t with before := (a : Int) }
theorem S3_len (S : List Sg) (a : Nat) (s : Sg) (k : Nat) (q : Nat) (g : Sg) (c : Option (Nat × Sg)) : (S3 S a s k q g c).length = S.length := by
  unfold S3
  split <;> simp [S2, S1]
theorem set_at {α : Type} (l : List α) (i j : Nat) (x : α) (h : i < l.length) : (l.set i x)[j]? = if i = j then some x else l[j]? := by
  rw [List.getElem?_set, if_pos h]
/-- the join -/
structure Joins (S : List Sg) (ps : List Nat) (i : Nat) (s g : Sg) (q : Nat) (c : Option (Nat × Sg)) : Prop where
  hi : i + 1 < ps.length
  hs : S[pl ps i]? = some s
  eq : q = pl ps (i + 1)
  hg : S[q]? = some g
  hc : (c = none ∧ g.after = -1 ∧ ¬ i + 2 < ps.length) ∨ ∃ t, c = some (pl ps (i + 2), t) ∧ g.after = (pl ps (i + 2) : Int) ∧ S[pl ps (i + 2)]? = some t ∧ i + 2 < ps.length
theorem S3_at {S : List Sg} {ps : List Nat} {ids : List Int} (h : Lk S ps ids) {i : Nat} {s g : Sg} {q : Nat} {c : Option (Nat × Sg)} (j : Joins S ps i s g q c) (k : Nat) (p : Nat) :
    (S3 S (pl ps i) s k q g c)[p]? = if p = pl ps i then some { s with id := 256 + (k : Int), after := g.after } else if p = q then some { g with rank := -1 } else match c with
      | none => S[p]?
      | some (c, t) => if p = c then some { t with before := (pl ps i : Int) } else S[p]? := by
  have hi := j.hi
  have b0 := h.bnd i (by omega)
  have b1 := h.bnd (i + 1) (by omega)
  have l1 := h.inc i (i + 1) (by omega) (by omega)
  rw [← j.eq] at b1 l1
  have e2 : (S2 S (pl ps i) s k q g)[p]? = if q = p then some { g with rank := -1 } else if pl ps i = p then some { s with id := 256 + (k : Int), after := g.after } else S[p]? := by
    unfold S2 S1
    rw [set_at _ _ _ _ (by simpa using b1), set_at _ _ _ _ b0]
  rcases j.hc with ⟨rfl, -, -⟩ | ⟨t, rfl, -, -, h2⟩
  · simp only [S3]
    rw [e2]
    by_cases p1 : p = pl ps i
    · rw [if_pos p1, if_neg (by omega), if_pos p1.symm]
    · rw [if_neg p1]
      by_cases p2 : p = q
      · rw [if_pos p2, if_pos p2.symm]
      · rw [if_neg p2, if_neg (Ne.symm p2), if_neg (Ne.symm p1)]
  · have b2 := h.bnd (i + 2) h2
    have l2 := h.inc (i + 1) (i + 2) (by omega) h2
    rw [← j.eq] at l2
    simp only [S3]
    rw [set_at _ _ _ _ (by simpa [S2, S1] using b2), e2]
    by_cases p1 : p = pl ps i
    · rw [if_pos p1, if_neg (by omega), if_neg (by omega), if_pos p1.symm]
    · rw [if_neg p1]
      by_cases p2 : p = q
      · rw [if_pos p2, if_neg (by omega), if_pos p2.symm]
      · rw [if_neg p2, if_neg (Ne.symm p2), if_neg (Ne.symm p1)]
        by_cases p3 : p = pl ps (i + 2)
        · rw [if_pos p3, if_pos p3.symm]
        · rw [if_neg p3, if_neg (Ne.symm p3)]
/-- a place beside the three is as it was -/
theorem S3_old {S : List Sg} {ps : List Nat} {ids : List Int} (h : Lk S ps ids) {i : Nat} {s g : Sg} {q : Nat} {c : Option (Nat × Sg)} (j : Joins S ps i s g q c) (k : Nat) {p : Nat} (h1 : p ≠ pl ps i) (h2 : p ≠ pl ps (i + 1)) (h3 : i + 2 < ps.length → p ≠ pl ps (i + 2)) : (S3 S (pl ps i) s k q g c)[p]? = S[p]? := by
  rw [S3_at h j, if_neg h1, if_neg (by rw [j.eq]; exact h2)]
  rcases j.hc with ⟨rfl, -, -⟩ | ⟨t, rfl, -, -, h4⟩
  · rfl
  · simp only
    rw [if_neg (h3 h4)]
theorem Lk.join {S : List Sg} {ps : List Nat} {ids : List Int} (h : Lk S ps ids) {i : Nat} {s g : Sg} {q : Nat} {c : Option (Nat × Sg)} (j : Joins S ps i s g q c) (k : Nat) : Lk (S3 S (pl ps i) s k q g c) (ps.eraseIdx (i + 1)) (joinAt ids i k) := by
  have hi := j.hi
  have hlen := h.len
  have hel := erase_len ps (i + 1) hi
  have hjl := joinAt_len ids i k (by omega)
  have l1 := h.inc i (i + 1) (by omega) (by omega)
  refine ⟨by omega, fun a b hab hb => ?_, fun a ha => ?_, fun a ha => ?_⟩
  · rw [erase_get, erase_get]
    split
    · split
      · exact h.inc a b hab (by omega)
      · exact h.inc a (b + 1) (by omega) (by omega)
    · rw [if_neg (by omega)]
      exact h.inc (a + 1) (b + 1) (by omega) (by omega)
  · rw [erase_get, S3_len]
    split
    · exact h.bnd a (by omega)
    · exact h.bnd (a + 1) (by omega)
  · have pn : ∀ x, x < (ps.eraseIdx (i + 1)).length → x ≤ i → pl (ps.eraseIdx (i + 1)) x = pl ps x := fun x _ hx => by rw [erase_get, if_pos (by omega)]
    have ph : ∀ x, i < x → pl (ps.eraseIdx (i + 1)) x = pl ps (x + 1) := fun x hx => by rw [erase_get, if_neg (by omega)]
    rcases Nat.lt_trichotomy a i with h1 | h1 | h1
    · obtain ⟨z, z1, z2, z3, z4⟩ := h.at' a (by omega)
      refine ⟨z, ?_, ?_, ?_, ?_⟩
      · rw [pn a ha (by omega), S3_old h j k (by have := h.inc a i h1 (by omega); omega) (by have := h.inc a (i + 1) (by omega) hi; omega) (fun h2 => by have := h.inc a (i + 2) (by omega) h2; omega)]
        exact z1
      · rw [joinAt_get _ _ _ _ (by omega), if_pos h1]; exact z2
      · rw [z3]
        unfold prevOf
        split
        · rfl
        · rw [pn (a - 1) (by omega) (by omega)]
      · rw [z4]
        unfold nextOf
        rw [if_pos (by omega), if_pos (by omega), pn (a + 1) (by omega) (by omega)]
    · subst h1
      obtain ⟨z, z1, z2, z3, z4⟩ := h.at' a (by omega)
      rw [j.hs] at z1
      cases z1
      refine ⟨_, by rw [pn a ha (by omega), S3_at h j, if_pos rfl], ?_, ?_, ?_⟩
      · rw [joinAt_get _ _ _ _ (by omega), if_neg (by omega), if_pos rfl]
      · simp only
        rw [z3]
        unfold prevOf
        split
        · rfl
        · rw [pn (a - 1) (by omega) (by omega)]
      · simp only
        unfold nextOf
        rcases j.hc with ⟨-, e, h4⟩ | ⟨t, -, e, -, h4⟩
        · rw [e, if_neg (by omega)]
        · rw [e, if_pos (by omega), ph (a + 1) (by omega)]
    · obtain ⟨z, z1, z2, z3, z4⟩ := h.at' (a + 1) (by omega)
      have g1 := h.inc i (a + 1) (by omega) (by omega)
      have g2 := h.inc (i + 1) (a + 1) (by omega) (by omega)
      have hid : (joinAt ids i k).getD a 0 = z.id := by rw [joinAt_get _ _ _ _ (by omega), if_neg (by omega), if_neg (by omega)]; exact z2
      have hnx : z.after = nextOf (ps.eraseIdx (i + 1)) a := by
        rw [z4]
        unfold nextOf
        by_cases hb : a + 1 + 1 < ps.length
        · rw [if_pos hb, if_pos (by omega), ph (a + 1) (by omega)]
        · rw [if_neg hb, if_neg (by omega)]
      by_cases h2 : a = i + 1
      · subst h2
        rcases j.hc with ⟨-, e, h4⟩ | ⟨t, ec, e, ht, h4⟩
        · omega
        · rw [show i + 1 + 1 = i + 2 from rfl] at z1 g1 g2
          rw [ht] at z1
          cases z1
          refine ⟨{ z with before := (pl ps i : Int) }, ?_, hid, ?_, hnx⟩
          · rw [ph (i + 1) (by omega), show i + 1 + 1 = i + 2 from rfl, S3_at h j, if_neg (by omega), if_neg (by rw [j.eq]; omega)]
            subst ec
            simp
          · simp only
            unfold prevOf
            rw [if_neg (by omega), show i + 1 - 1 = i by omega, pn i (by omega) (by omega)]
      · refine ⟨z, ?_, hid, ?_, hnx⟩
        · rw [ph a h1, S3_old h j k (by omega) (by omega) (fun h4 => by have := h.inc (i + 2) (a + 1) (by omega) (by omega); omega)]
          exact z1
        · rw [z3]
          unfold prevOf
          rw [if_neg (by omega), if_neg (by omega), show a + 1 - 1 = (a - 1) + 1 by omega, ph (a - 1) (by omega)]

/-- between two looks: those of X have still to be looked at -/
structure Half (K : List Mg) (S : List Sg) (ps : List Nat) (ids : List Int) (L : List Pr) (X : Nat → Prop) : Prop where
  lk : Lk S ps ids
  rank : ∀ i, i < ps.length → ¬ X i → ∀ s, S[pl ps i]? = some s → s.rank = rkI K ids i
  dead : ∀ p s, S[p]? = some s → (∀ i, i < ps.length → pl ps i ≠ p) → s.rank = -1
  pile : ∀ i, i < ps.length → ¬ X i → rkI K ids i ≠ -1 → (rkI K ids i, (pl ps i : Int)) ∈ L
  pok : ∀ x ∈ L, 0 ≤ x.1 ∧ ∃ p : Nat, x.2 = (p : Int) ∧ p < S.length
  first : 0 < ps.length → pl ps 0 = 0
theorem Half.inv {K : List Mg} {S : List Sg} {ps : List Nat} {ids : List Int} {L : List Pr} {X : Nat → Prop} (h : Half K S ps ids L X) (hX : ∀ i, i < ps.length → ¬ X i) : Inv K S ps ids L :=
  ⟨h.lk, fun i hi => h.rank i hi (hX i hi), h.dead, fun i hi => h.pile i hi (hX i hi), h.pok, h.first⟩
/-- what looking makes of the pile -/
def Looked (r : Int) (p : Nat) (L L' : List Pr) : Prop := (r = -1 ∧ L' = L) ∨ (r ≠ -1 ∧ L'.Perm ((r, (p : Int)) :: L))
theorem Half.look {K : List Mg} (hK : K.length ≤ 1024) {S : List Sg} {ps : List Nat} {ids : List Int} {L L' : List Pr} {X : Nat → Prop} (h : Half K S ps ids L X) {i : Nat} (hi : i < ps.length) {s : Sg} (hs : S[pl ps i]? = some s) (hL : Looked (rkI K ids i) (pl ps i) L L') : Half K (S.set (pl ps i) { s with rank := rkI K ids i }) ps ids L' (fun j => X j ∧ j ≠ i) := by
  have hb := h.lk.bnd i hi
  have g : ∀ p, (S.set (pl ps i) { s with rank := rkI K ids i })[p]? = if pl ps i = p then some { s with rank := rkI K ids i } else S[p]? := fun p => set_at _ _ _ _ hb
  have hsub : ∀ x ∈ L, x ∈ L' := fun x hx => by
    rcases hL with ⟨_, rfl⟩ | ⟨_, hp⟩
    · exact hx
    · exact hp.symm.subset (List.mem_cons_of_mem _ hx)
  refine ⟨⟨h.lk.len, h.lk.inc, fun j hj => by rw [List.length_set]; exact h.lk.bnd j hj, fun j hj => ?_⟩, fun j hj hX z hz => ?_, fun p z hz hd => ?_, fun j hj hX h0 => ?_, fun x hx => ?_, h.first⟩
  · obtain ⟨z, z1, z2, z3, z4⟩ := h.lk.at' j hj
    rw [g]
    by_cases e : pl ps i = pl ps j
    · rw [if_pos e]
      rw [← e, hs] at z1
      cases z1
      exact ⟨_, rfl, z2, z3, z4⟩
    · rw [if_neg e]
      exact ⟨z, z1, z2, z3, z4⟩
  · rw [g] at hz
    by_cases e : pl ps i = pl ps j
    · rw [if_pos e] at hz
      cases hz
      rw [inj h.lk hi hj e]
    · rw [if_neg e] at hz
      exact h.rank j hj (fun hx => hX ⟨hx, fun e2 => e (by rw [e2])⟩) z hz
  · rw [g, if_neg (hd i hi)] at hz
    exact h.dead p z hz hd
  · by_cases e : j = i
    · subst e
      rcases hL with ⟨e, _⟩ | ⟨_, hp⟩
      · exact absurd e h0
      · exact hp.symm.subset List.mem_cons_self
    · exact hsub _ (h.pile j hj (fun hx => hX ⟨hx, e⟩) h0)
  · rw [List.length_set]
    rcases hL with ⟨_, rfl⟩ | ⟨h0, hp⟩
    · exact h.pok x hx
    · rcases List.mem_cons.1 (hp.subset hx) with e | e
      · subst e
        obtain ⟨-, e2⟩ := rkI_nat (r := rkI K ids i) rfl h0
        exact ⟨by simp only; omega, pl ps i, rfl, hb⟩
      · exact h.pok x e
theorem Inv.half {K : List Mg} {S : List Sg} {ps : List Nat} {ids : List Int} {L L' : List Pr} (h : Inv K S ps ids L) {i : Nat} {s g : Sg} {q : Nat} {c : Option (Nat × Sg)} (j : Joins S ps i s g q c) (k : Nat) {r : Int} (hp : L.Perm ((r, (pl ps i : Int)) :: L')) : Half K (S3 S (pl ps i) s k q g c) (ps.eraseIdx (i + 1)) (joinAt ids i k) L' (fun x => x = i ∨ x + 1 = i) := by
  have hi := j.hi
  have hlen := h.lk.len
  have hel := erase_len ps (i + 1) hi
  have hjl := joinAt_len ids i k (by omega)
  have pn : ∀ x, x ≤ i → pl (ps.eraseIdx (i + 1)) x = pl ps x := fun x hx => by rw [erase_get, if_pos (by omega)]
  have ph : ∀ x, i < x → pl (ps.eraseIdx (i + 1)) x = pl ps (x + 1) := fun x hx => by rw [erase_get, if_neg (by omega)]
  have hmem : ∀ x, x < ps.length → x ≠ i → rkI K ids x ≠ -1 → (rkI K ids x, (pl ps x : Int)) ∈ L' := fun x hx hne h0 => by
    rcases List.mem_cons.1 (hp.subset (h.pile x hx h0)) with e | e
    · exfalso
      obtain ⟨-, e2⟩ := Prod.mk.inj e
      exact hne (inj h.lk hx (by omega) (by omega))
    · exact e
  refine ⟨h.lk.join j k, fun x hx hX z hz => ?_, fun p z hz hd => ?_, fun x hx hX h0 => ?_, fun x hx => ?_, fun h0 => ?_⟩
  · by_cases h1 : x + 1 < i
    · rw [pn x (by omega), S3_old h.lk j k (by have := h.lk.inc x i (by omega) (by omega); omega) (by have := h.lk.inc x (i + 1) (by omega) hi; omega) (fun h2 => by have := h.lk.inc x (i + 2) (by omega) h2; omega)] at hz
      rw [rk_low (by omega) h1]
      exact h.rank x (by omega) z hz
    · have h2 : i < x := by
        apply Classical.byContradiction
        intro hn
        exact hX (by omega)
      rw [rk_high (by omega) h2]
      have g1 := h.lk.inc i (x + 1) (by omega) (by omega)
      have g2 := h.lk.inc (i + 1) (x + 1) (by omega) (by omega)
      rw [ph x h2, S3_at h.lk j, if_neg (by omega), if_neg (by rw [j.eq]; omega)] at hz
      rcases j.hc with ⟨rfl, -, h4⟩ | ⟨t, rfl, -, ht, h4⟩
      · exact h.rank (x + 1) (by omega) z hz
      · simp only at hz
        split at hz
        · rename_i e
          cases hz
          exact h.rank (x + 1) (by omega) t (by rw [e]; exact ht)
        · exact h.rank (x + 1) (by omega) z hz
  · rw [S3_at h.lk j] at hz
    have n1 : p ≠ pl ps i := fun e => hd i (by omega) (by rw [pn i (by omega)]; exact e.symm)
    rw [if_neg n1] at hz
    split at hz
    · cases hz; rfl
    · rename_i n2
      have hold : ∀ (z : Sg), S[p]? = some z → z.rank = -1 := fun z hz => h.dead p z hz (fun x hx e => by
        by_cases h1 : x ≤ i
        · exact hd x (by omega) (by rw [pn x h1]; exact e)
        · by_cases h2 : x = i + 1
          · subst h2; exact n2 (by rw [j.eq]; exact e.symm)
          · exact hd (x - 1) (by omega) (by rw [ph (x - 1) (by omega), show x - 1 + 1 = x by omega]; exact e))
      rcases j.hc with ⟨rfl, -, h4⟩ | ⟨t, rfl, -, ht, h4⟩
      · exact hold z hz
      · simp only at hz
        split at hz
        · rename_i e
          exact absurd (by rw [ph (i + 1) (by omega)]; exact e.symm) (hd (i + 1) (by omega))
        · exact hold z hz
  · by_cases h1 : x + 1 < i
    · rw [rk_low (by omega) h1] at h0 ⊢
      rw [pn x (by omega)]
      exact hmem x (by omega) (by omega) h0
    · have h2 : i < x := by
        apply Classical.byContradiction
        intro hn
        exact hX (by omega)
      rw [rk_high (by omega) h2] at h0 ⊢
      rw [ph x h2]
      exact hmem (x + 1) (by omega) (by omega) h0
  · rw [S3_len]
    exact h.pok x (hp.symm.subset (List.mem_cons_of_mem _ hx))
  · rw [pn 0 (by omega)]
    exact h.first (by omega)
/-- a sign that is alive, what comes up when it is looked at -/
theorem Half.seen {K : List Mg} (hK : K.length ≤ 1024) {S : List Sg} {ps : List Nat} {ids : List Int} {L : List Pr} {X : Nat → Prop} (h : Half K S ps ids L X) {i : Nat} (hi : i < ps.length) : ∃ s, S[pl ps i]? = some s ∧ s.id = ids.getD i 0 ∧ s.before = prevOf ps i ∧ ((s.after = -1 ∧ rkI K ids i = -1) ∨ ∃ t, s.after = (pl ps (i + 1) : Int) ∧ S[pl ps (i + 1)]? = some t ∧ t.id = ids.getD (i + 1) 0 ∧ i + 1 < ps.length ∧ rkI K ids i = lookR K s.id t.id) := by
  obtain ⟨s, h1, h2, h3, h4⟩ := h.lk.at' i hi
  have hlen := h.lk.len
  refine ⟨s, h1, h2.symm, h3, ?_⟩
  unfold nextOf at h4
  split at h4
  · rename_i hn
    obtain ⟨t, t1, t2, -, -⟩ := h.lk.at' (i + 1) hn
    exact .inr ⟨t, h4, t1, t2.symm, hn, by rw [rkI_in hK (by omega), h2, t2]⟩
  · exact .inl ⟨h4, rkI_last (by omega)⟩
end Go.Proofs.Ytmmlibehihknbaa.en
