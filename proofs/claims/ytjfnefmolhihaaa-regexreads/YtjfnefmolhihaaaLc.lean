/-
  Plain mathematics, no program: what stands behind the byte at which reading ends, or that is wrong, changes nothing of what was read ahead of it.
-/
import Derived.Test.YtjfnefmolhihaaaPs
namespace Go.Proofs.Ytjfnefmolhihaaa.st
set_option linter.unusedVariables false

/-- no digit, and no backslash -/
def plainB (c : Nat) : Prop := c ∉ digits ∧ c ≠ 92

structure Loc {α : Type} (f : List Nat → R α) : Prop where
  suf : ∀ l a r, f l = .ok a r → r <:+ l
  sufb : ∀ l e r, f l = .bad e r → r <:+ l
  ok : ∀ p c x y a q, f (p ++ c :: x) = .ok a (q ++ c :: x) → f (p ++ c :: y) = .ok a (q ++ c :: y)
  bad : ∀ p c x y, plainB c → f (p ++ c :: x) = .bad 60 (c :: x) → f (p ++ c :: y) = .bad 60 (c :: y)
def Eats {α : Type} (f : List Nat → R α) : Prop := ∀ l a r, f l = .ok a r → r.length < l.length

theorem parted {p r x : List Nat} {c : Nat} {q : List Nat} (h1 : q ++ c :: x <:+ r) (h2 : r <:+ p ++ c :: x) : ∃ p', r = p' ++ c :: x := by
  obtain ⟨t, rfl⟩ := h1
  exact ⟨t ++ q, by simp⟩
theorem no_suf {q x : List Nat} {c : Nat} (h : q ++ c :: x <:+ x) : False := by
  have := h.length_le
  simp at this
  omega

theorem sees_same (s p : List Nat) (c : Nat) (x y : List Nat) : sees s (p ++ c :: x) = sees s (p ++ c :: y) := by
  cases p <;> rfl

theorem Loc.ret {α : Type} (a : α) : Loc (fun l => R.ok a l) where
  suf := by rintro l b r h; cases h; exact List.suffix_refl _
  sufb := by rintro l b r h; cases h
  ok := by
    intro p c x y b q h
    injection h with h1 h2
    subst h1
    have : p = q := List.append_cancel_right h2
    rw [this]
  bad := by rintro p c x y _ h; cases h

theorem Loc.bind {α β : Type} {f : List Nat → R α} {g : α → List Nat → R β} (hf : Loc f) (hg : ∀ a, Loc (g a)) : Loc (fun l => (f l).then g) where
  suf := by
    intro l b r h
    cases hl : f l with
    | ok a l1 => simp only [hl, R.then] at h; exact ((hg a).suf _ _ _ h).trans (hf.suf _ _ _ hl)
    | bad e l1 => simp [hl, R.then] at h
  sufb := by
    intro l b r h
    cases hl : f l with
    | ok a l1 => simp only [hl, R.then] at h; exact ((hg a).sufb _ _ _ h).trans (hf.suf _ _ _ hl)
    | bad e l1 => simp only [hl, R.then] at h; cases h; exact hf.sufb _ _ _ hl
  ok := by
    intro p c x y b q h
    cases hl : f (p ++ c :: x) with
    | ok a l1 =>
      simp only [hl, R.then] at h
      obtain ⟨p', rfl⟩ := parted ((hg a).suf _ _ _ h) (hf.suf _ _ _ hl)
      simp only [hf.ok _ _ _ y _ _ hl, R.then]
      exact (hg a).ok _ _ _ _ _ _ h
    | bad e l1 => simp [hl, R.then] at h
  bad := by
    intro p c x y hc h
    cases hl : f (p ++ c :: x) with
    | ok a l1 =>
      simp only [hl, R.then] at h
      obtain ⟨p', rfl⟩ := parted (q := []) (by simpa using (hg a).sufb _ _ _ h) (hf.suf _ _ _ hl)
      simp only [hf.ok _ _ _ y _ _ hl, R.then]
      exact (hg a).bad _ _ _ _ hc h
    | bad e l1 =>
      simp only [hl, R.then] at h
      cases h
      simp only [hf.bad _ _ _ y hc hl, R.then]

theorem Loc.ite {α : Type} {f g : List Nat → R α} (s : List Nat) (hf : Loc f) (hg : Loc g) : Loc (fun l => if sees s l then f l else g l) where
  suf := by
    intro l a r h
    by_cases hs : sees s l = true
    · exact hf.suf _ _ _ (by simpa only [hs, if_true] using h)
    · exact hg.suf _ _ _ (by simpa only [hs, Bool.false_eq_true, if_false] using h)
  sufb := by
    intro l a r h
    by_cases hs : sees s l = true
    · exact hf.sufb _ _ _ (by simpa only [hs, if_true] using h)
    · exact hg.sufb _ _ _ (by simpa only [hs, Bool.false_eq_true, if_false] using h)
  ok := by
    intro p c x y a q h
    by_cases hs : sees s (p ++ c :: y) = true
    · have hx := hs
      rw [← sees_same s p c x y] at hx
      simp only [hs, hx, if_true] at h ⊢
      exact hf.ok _ _ _ _ _ _ h
    · have hx := hs
      rw [← sees_same s p c x y] at hx
      simp only [hs, hx, Bool.false_eq_true, if_false] at h ⊢
      exact hg.ok _ _ _ _ _ _ h
  bad := by
    intro p c x y hc h
    by_cases hs : sees s (p ++ c :: y) = true
    · have hx := hs
      rw [← sees_same s p c x y] at hx
      simp only [hs, hx, if_true] at h ⊢
      exact hf.bad _ _ _ _ hc h
    · have hx := hs
      rw [← sees_same s p c x y] at hx
      simp only [hs, hx, Bool.false_eq_true, if_false] at h ⊢
      exact hg.bad _ _ _ _ hc h

theorem Loc.tl {α : Type} {f : List Nat → R α} (hf : Loc f) : Loc (fun l => f l.tail) where
  suf := fun l a r h => (hf.suf _ _ _ h).trans (List.tail_suffix l)
  sufb := fun l a r h => (hf.sufb _ _ _ h).trans (List.tail_suffix l)
  ok := by
    intro p c x y a q h
    cases p with
    | nil => exact (no_suf (hf.suf _ _ _ h)).elim
    | cons b p => exact hf.ok _ _ _ _ _ _ h
  bad := by
    intro p c x y hc h
    cases p with
    | nil => exact (no_suf (q := []) (hf.sufb _ _ _ h)).elim
    | cons b p => exact hf.bad _ _ _ _ hc h

theorem Loc.cond {α : Type} {f g : List Nat → R α} (p : Prop) [Decidable p] (hf : Loc f) (hg : Loc g) : Loc (fun l => if p then f l else g l) := by
  by_cases h : p
  · simpa [h] using hf
  · simpa [h] using hg

theorem Loc.wrong {α : Type} : Loc (fun l => (R.bad 60 l : R α)) where
  suf := by rintro l a r h; cases h
  sufb := by rintro l a r h; cases h; exact List.suffix_refl _
  ok := by rintro p c x y a q h; cases h
  bad := by
    intro p c x y _ h
    injection h with _ h
    have : p = [] := by
      have := congrArg List.length h
      simp at this
      exact this
    subst this
    rfl

theorem step_loc : Loc step where
  suf := by
    intro l a r h
    cases l with
    | nil => cases h
    | cons b l => cases h; exact List.suffix_cons _ _
  sufb := by
    intro l a r h
    cases l with
    | nil => cases h; exact List.suffix_refl _
    | cons b l => cases h
  ok := by
    intro p c x y a q h
    cases p with
    | nil => simp only [step, List.nil_append] at h; injection h with _ h; exact (no_suf ⟨[], by simpa using h.symm⟩).elim
    | cons b p =>
      simp only [step, List.cons_append] at h ⊢
      injection h with h1 h2
      rw [h1, List.append_cancel_right h2]
  bad := by
    intro p c x y _ h
    cases p <;> cases h
theorem step_eats : Eats step := by
  intro l a r h
  cases l with
  | nil => cases h
  | cons b l => cases h; simp

theorem Eats.bind {α β : Type} {f : List Nat → R α} {g : α → List Nat → R β} (hf : Eats f) (hg : ∀ a, Loc (g a)) : Eats (fun l => (f l).then g) := by
  intro l b r h
  cases hl : f l with
  | ok a l1 =>
    simp only [hl, R.then] at h
    have h1 := ((hg a).suf _ _ _ h).length_le
    have h2 := hf _ _ _ hl
    omega
  | bad e l1 => simp [hl, R.then] at h
theorem Eats.bind2 {α β : Type} {f : List Nat → R α} {g : α → List Nat → R β} (hf : Loc f) (hg : ∀ a, Eats (g a)) : Eats (fun l => (f l).then g) := by
  intro l b r h
  cases hl : f l with
  | ok a l1 =>
    simp only [hl, R.then] at h
    have h1 := (hf.suf _ _ _ hl).length_le
    have h2 := hg _ _ _ _ h
    omega
  | bad e l1 => simp [hl, R.then] at h
theorem Eats.ite {α : Type} {f g : List Nat → R α} (s : List Nat) (hf : Eats f) (hg : Eats g) : Eats (fun l => if sees s l then f l else g l) := by
  intro l a r h
  simp only at h
  split at h
  · exact hf _ _ _ h
  · exact hg _ _ _ h
theorem Eats.wrong {α : Type} : Eats (fun l => (R.bad 60 l : R α)) := by rintro l a r h; cases h
theorem Eats.tl {α : Type} {f : List Nat → R α} (hf : Eats f) : Eats (fun l => f l.tail) := by
  intro l a r h
  have := hf _ _ _ h
  have h2 : l.tail.length ≤ l.length := by simp
  omega

theorem oneOf_loc (s : List Nat) : Loc (oneOf s) := Loc.ite s step_loc Loc.wrong
theorem oneOf_eats (s : List Nat) : Eats (oneOf s) := Eats.ite s step_eats Eats.wrong
theorem noneOf_loc (s : List Nat) : Loc (noneOf s) := Loc.ite s Loc.wrong step_loc
theorem noneOf_eats (s : List Nat) : Eats (noneOf s) := Eats.ite s Eats.wrong step_eats
theorem hex_loc : Loc hex := (oneOf_loc hexes).bind fun c => Loc.ret _
theorem one_loc : Loc one := (oneOf_loc escapes).bind fun c =>
  Loc.cond _ (Loc.ret _) (Loc.cond _ (Loc.ret _) (Loc.cond _ (Loc.ret _) (Loc.cond _ (hex_loc.bind fun a => hex_loc.bind fun b => Loc.ret _) (Loc.ret _))))
theorem one_eats : Eats one := (oneOf_eats escapes).bind fun c =>
  Loc.cond _ (Loc.ret _) (Loc.cond _ (Loc.ret _) (Loc.cond _ (Loc.ret _) (Loc.cond _ (hex_loc.bind fun a => hex_loc.bind fun b => Loc.ret _) (Loc.ret _))))
theorem point_loc (s : List Nat) : Loc (point s) := Loc.ite _ one_loc.tl (noneOf_loc s)
theorem point_eats (s : List Nat) : Eats (point s) := Eats.ite _ one_eats.tl (noneOf_eats s)

/-- a second point, that must not be less than the first one -/
def upper (a : Nat) (l : List Nat) : R Q4 := (point outside l).then fun b l2 => if b < a then .bad 60 l else .ok (rng a b) l2
theorem point_here {s : List Nat} {c : Nat} (hc : c ≠ 92) {x y : List Nat} {b : Nat} {r : List Nat} (h : point s (c :: x) = .ok b r) : point s (c :: y) = .ok b y := by
  have hs : sees [92] (c :: x) = false := by simp [sees, hc]
  have hs' : sees [92] (c :: y) = false := by simp [sees, hc]
  simp only [point, hs, hs', noneOf] at h ⊢
  have e : sees s (c :: x) = sees s (c :: y) := rfl
  rw [e] at h
  cases hh : sees s (c :: y)
  · simp [hh, step] at h ⊢
    exact h.1
  · simp [hh] at h
theorem upper_loc (a : Nat) : Loc (upper a) where
  suf := by
    intro l q r h
    unfold upper at h
    cases hl : point outside l with
    | ok b l2 =>
      simp only [hl, R.then] at h
      split at h
      · cases h
      · cases h; exact (point_loc _).suf _ _ _ hl
    | bad e l2 => simp [hl, R.then] at h
  sufb := by
    intro l q r h
    unfold upper at h
    cases hl : point outside l with
    | ok b l2 =>
      simp only [hl, R.then] at h
      split at h
      · cases h; exact List.suffix_refl _
      · cases h
    | bad e l2 => simp only [hl, R.then] at h; cases h; exact (point_loc _).sufb _ _ _ hl
  ok := by
    intro p c x y q t h
    unfold upper at h ⊢
    cases hl : point outside (p ++ c :: x) with
    | ok b l2 =>
      simp only [hl, R.then] at h
      split at h
      · cases h
      · rename_i hb
        injection h with h1 h2
        subst h2
        simp only [(point_loc _).ok _ _ _ y _ _ hl, R.then, hb, if_false, h1]
    | bad e l2 => simp [hl, R.then] at h
  bad := by
    intro p c x y hc h
    unfold upper at h ⊢
    cases hl : point outside (p ++ c :: x) with
    | ok b l2 =>
      simp only [hl, R.then] at h
      split at h
      · rename_i hb
        injection h with _ h2
        have hp : p = [] := by
          have := congrArg List.length h2
          simp at this
          exact this
        subst hp
        simp only [List.nil_append] at hl ⊢
        simp only [point_here hc.2 hl (y := y), R.then, hb, if_true]
      · cases h
    | bad e l2 =>
      simp only [hl, R.then] at h
      cases h
      simp only [(point_loc _).bad _ _ _ y hc hl, R.then]
theorem upper_eats (a : Nat) : Eats (upper a) := by
  intro l q r h
  unfold upper at h
  cases hl : point outside l with
  | ok b l2 =>
    simp only [hl, R.then] at h
    split at h
    · cases h
    · cases h; exact point_eats _ _ _ _ hl
  | bad e l2 => simp [hl, R.then] at h

theorem kind_short {l : List Nat} {z : Q4 × List Nat} (h : kind l = some z) : ∃ d, l = 92 :: d :: z.2 := by
  match l with
  | [] => simp [kind] at h
  | [a] => simp [kind] at h
  | a :: c :: l =>
    simp only [kind] at h
    split at h
    · rename_i ha
      subst ha
      cases hk : kindOf c with
      | none => simp [hk] at h
      | some q => simp [hk] at h; exact ⟨c, by rw [← h]⟩
    · cases h
theorem kind_same {p : List Nat} {c : Nat} {x y : List Nat} (h : p ≠ [] ∨ c ≠ 92) (hn : kind (p ++ c :: x) = none) : kind (p ++ c :: y) = none := by
  match p with
  | [] =>
    have hc : c ≠ 92 := by simpa using h
    cases y <;> simp [kind, hc]
  | [a] => simpa [kind] using hn
  | a :: b :: p => simpa [kind] using hn

def orKind (g : List Nat → R Q4) (l : List Nat) : R Q4 :=
  match kind l with
  | some x => .ok x.1 x.2
  | none => g l
theorem orKind_loc {g : List Nat → R Q4} (hg : Loc g) (he : Eats g) : Loc (orKind g) where
  suf := by
    intro l a r h
    unfold orKind at h
    split at h
    · rename_i z hk
      obtain ⟨d, rfl⟩ := kind_short hk
      cases h
      exact (List.suffix_cons _ _).trans (List.suffix_cons _ _)
    · exact hg.suf _ _ _ h
  sufb := by
    intro l a r h
    unfold orKind at h
    split at h
    · cases h
    · exact hg.sufb _ _ _ h
  ok := by
    intro p c x y a q h
    unfold orKind at h ⊢
    cases hk : kind (p ++ c :: x) with
    | some z =>
      simp only [hk] at h
      injection h with h1 h2
      obtain ⟨d, hd⟩ := kind_short hk
      rw [h2] at hd
      match p with
      | [] => exact (no_suf (x := x) (c := c) (q := d :: q) ⟨[], by injection hd with _ hd; exact hd.symm⟩).elim
      | [b] => exact (no_suf (x := x) (c := c) (q := q) ⟨[], by injection hd with _ hd; injection hd with _ hd; exact hd.symm⟩).elim
      | b :: b2 :: p =>
        have hq : p = q := by
          simp only [List.cons_append, List.cons.injEq] at hd
          exact List.append_cancel_right hd.2.2
        subst hq
        simp only [List.cons_append, kind] at hk ⊢
        split at hk
        · rename_i hb
          simp only [hb, if_true]
          cases hk2 : kindOf b2 with
          | none => simp [hk2] at hk
          | some q2 => simp [hk2] at hk ⊢; rw [← h1, ← hk]
        · cases hk
    | none =>
      simp only [hk] at h
      have hp : p ≠ [] ∨ c ≠ 92 := by
        refine Classical.byContradiction fun hn => ?_
        have hp : p = [] := Classical.byContradiction fun e => hn (Or.inl e)
        subst hp
        have := he _ _ _ h
        simp at this
        omega
      rw [kind_same hp hk]
      exact hg.ok _ _ _ _ _ _ h
  bad := by
    intro p c x y hc h
    unfold orKind at h ⊢
    cases hk : kind (p ++ c :: x) with
    | some z => simp [hk] at h
    | none =>
      simp only [hk] at h
      rw [kind_same (Or.inr hc.2) hk]
      exact hg.bad _ _ _ _ hc h
theorem orKind_eats {g : List Nat → R Q4} (he : Eats g) : Eats (orKind g) := by
  intro l a r h
  unfold orKind at h
  split at h
  · rename_i z hk
    obtain ⟨d, rfl⟩ := kind_short hk
    cases h
    simp
    omega
  · exact he _ _ _ h

def bare (l : List Nat) : R Q4 := (point outside l).then fun a l1 => if sees [45] l1 then upper a l1.tail else .ok (rng a a) l1
theorem part_eq : part = orKind bare := rfl
theorem bare_loc : Loc bare := (point_loc _).bind fun a => Loc.ite _ (upper_loc a).tl (Loc.ret _)
theorem bare_eats : Eats bare := (point_eats _).bind fun a => Loc.ite _ (upper_loc a).tl (Loc.ret _)
theorem part_loc : Loc part := part_eq ▸ orKind_loc bare_loc bare_eats
theorem part_eats : Eats part := part_eq ▸ orKind_eats bare_eats

/-- a loop: it stops by the next byte, or takes something more -/
def loopG {σ α β : Type} (stop : List Nat → Bool) (fin : σ → List Nat → R β) (f : List Nat → R α) (upd : σ → α → σ) : Nat → σ → List Nat → R β
  | 0, _, _ => .bad 0 []
  | n + 1, s, l => if stop l then fin s l else (f l).then fun z l1 => loopG stop fin f upd n (upd s z) l1

section
variable {σ α β : Type} {stop : List Nat → Bool} {fin : σ → List Nat → R β} {f : List Nat → R α} {upd : σ → α → σ}
theorem loop_suf (hfin : ∀ s, Loc (fin s)) (hf : Loc f) : ∀ n s l, (∀ a r, loopG stop fin f upd n s l = .ok a r → r <:+ l) ∧ (∀ e r, loopG stop fin f upd n s l = .bad e r → r <:+ l)
  | 0, s, l => by
    refine ⟨fun a r h => (by cases h), fun e r h => ?_⟩
    cases h
    exact List.nil_suffix
  | n + 1, s, l => by
    simp only [loopG]
    split
    · exact ⟨fun a r h => (hfin s).suf _ _ _ h, fun e r h => (hfin s).sufb _ _ _ h⟩
    · cases hl : f l with
      | ok z l1 =>
        simp only [R.then]
        have ih := loop_suf hfin hf n (upd s z) l1
        exact ⟨fun a r h => (ih.1 a r h).trans (hf.suf _ _ _ hl), fun e r h => (ih.2 e r h).trans (hf.suf _ _ _ hl)⟩
      | bad e l1 =>
        simp only [R.then]
        exact ⟨fun a r h => (by cases h), fun e r h => (by cases h; exact hf.sufb _ _ _ hl)⟩
theorem loop_ok (hs : ∀ p c x y, stop (p ++ c :: x) = stop (p ++ c :: y)) (hfin : ∀ s, Loc (fin s)) (hf : Loc f) (he : Eats f) (c : Nat) (x y : List Nat) (a : β) (q : List Nat) :
    ∀ n s p m, p.length + 1 < m → loopG stop fin f upd n s (p ++ c :: x) = .ok a (q ++ c :: x) → loopG stop fin f upd m s (p ++ c :: y) = .ok a (q ++ c :: y)
  | 0, s, p, m, hm, h => by cases h
  | n + 1, s, p, 0, hm, h => by omega
  | n + 1, s, p, m + 1, hm, h => by
    simp only [loopG, hs p c x y] at h ⊢
    split at h
    · rename_i hst
      simp only [hst, if_true]
      exact (hfin s).ok _ _ _ _ _ _ h
    · rename_i hst
      simp only [hst, Bool.false_eq_true, if_false]
      cases hl : f (p ++ c :: x) with
      | ok z r =>
        simp only [hl, R.then] at h
        obtain ⟨p', rfl⟩ := parted ((loop_suf hfin hf n (upd s z) r).1 _ _ h) (hf.suf _ _ _ hl)
        simp only [hf.ok _ _ _ y _ _ hl, R.then]
        have := he _ _ _ hl
        simp at this
        exact loop_ok hs hfin hf he c x y a q n _ p' m (by omega) h
      | bad e r => simp [hl, R.then] at h
theorem loop_bad (hs : ∀ p c x y, stop (p ++ c :: x) = stop (p ++ c :: y)) (hfin : ∀ s, Loc (fin s)) (hf : Loc f) (he : Eats f) (c : Nat) (x y : List Nat) (hc : plainB c) :
    ∀ n s p m, p.length + 1 < m → loopG stop fin f upd n s (p ++ c :: x) = .bad 60 (c :: x) → loopG stop fin f upd m s (p ++ c :: y) = .bad 60 (c :: y)
  | 0, s, p, m, hm, h => by cases h
  | n + 1, s, p, 0, hm, h => by omega
  | n + 1, s, p, m + 1, hm, h => by
    simp only [loopG, hs p c x y] at h ⊢
    split at h
    · rename_i hst
      simp only [hst, if_true]
      exact (hfin s).bad _ _ _ _ hc h
    · rename_i hst
      simp only [hst, Bool.false_eq_true, if_false]
      cases hl : f (p ++ c :: x) with
      | ok z r =>
        simp only [hl, R.then] at h
        obtain ⟨p', rfl⟩ := parted (q := []) (by simpa using (loop_suf hfin hf n (upd s z) r).2 _ _ h) (hf.suf _ _ _ hl)
        simp only [hf.ok _ _ _ y _ _ hl, R.then]
        have := he _ _ _ hl
        simp at this
        exact loop_bad hs hfin hf he c x y hc n _ p' m (by omega) h
      | bad e r =>
        simp only [hl, R.then] at h
        cases h
        simp only [hf.bad _ _ _ y hc hl, R.then]
theorem loop_loc (hs : ∀ p c x y, stop (p ++ c :: x) = stop (p ++ c :: y)) (hfin : ∀ s, Loc (fin s)) (hf : Loc f) (he : Eats f) (s : σ) : Loc (fun l => loopG stop fin f upd (l.length + 1) s l) where
  suf := fun l => (loop_suf hfin hf _ s l).1
  sufb := fun l => (loop_suf hfin hf _ s l).2
  ok := fun p c x y a q h => loop_ok hs hfin hf he c x y a q _ s p _ (by simp) h
  bad := fun p c x y hc h => loop_bad hs hfin hf he c x y hc _ s p _ (by simp) h
end

theorem parts_eq : ∀ n q l, parts n q l = loopG (sees [93]) (fun q l => R.ok q l.tail) part jn n q l
  | 0, q, l => rfl
  | n + 1, q, l => by
    simp only [parts, loopG]
    split
    · rfl
    · cases part l with
      | ok z l1 => simp only [R.then]; exact parts_eq n _ l1
      | bad e l1 => rfl
theorem parts_loc (q : Q4) : Loc (fun l => parts (l.length + 1) q l) := by
  have h := loop_loc (stop := sees [93]) (fin := fun q l => R.ok q l.tail) (upd := jn) (sees_same [93]) (fun q => (Loc.ret q).tl) part_loc part_eats q
  simpa only [← parts_eq] using h
theorem cls_loc : Loc cls := by
  have h : ∀ b : Bool, Loc (fun l => (part l).then fun q l1 => (parts (l1.length + 1) q l1).then fun q l2 => R.ok (if b then nt q else q) l2) := fun b =>
    part_loc.bind fun q => (parts_loc q).bind fun q => Loc.ret _
  have e : cls = fun l => if sees [94] l then (part l.tail).then (fun q l1 => (parts (l1.length + 1) q l1).then fun q l2 => R.ok (if true then nt q else q) l2) else (part l).then fun q l1 => (parts (l1.length + 1) q l1).then fun q l2 => R.ok (if false then nt q else q) l2 := by
    funext l
    simp only [cls]
    cases sees [94] l <;> rfl
  rw [e]
  exact Loc.ite _ (h true).tl (h false)
theorem cls_eats : Eats cls := by
  have h : ∀ b : Bool, Eats (fun l => (part l).then fun q l1 => (parts (l1.length + 1) q l1).then fun q l2 => R.ok (if b then nt q else q) l2) := fun b =>
    part_eats.bind fun q => (parts_loc q).bind fun q => Loc.ret _
  have e : cls = fun l => if sees [94] l then (part l.tail).then (fun q l1 => (parts (l1.length + 1) q l1).then fun q l2 => R.ok (if true then nt q else q) l2) else (part l).then fun q l1 => (parts (l1.length + 1) q l1).then fun q l2 => R.ok (if false then nt q else q) l2 := by
    funext l
    simp only [cls]
    cases sees [94] l <;> rfl
  rw [e]
  exact Eats.ite _ (h true).tl (h false)

def byte1 (l : List Nat) : R Q4 := (point signs l).then fun b l1 => .ok (rng b b) l1
theorem byte1_loc : Loc byte1 := (point_loc _).bind fun b => Loc.ret _
theorem byte1_eats : Eats byte1 := (point_eats _).bind fun b => Loc.ret _
theorem single_eq : single = fun l => if sees [91] l then cls l.tail else if sees [46] l then R.ok dotSet l.tail else orKind byte1 l := rfl
theorem single_loc : Loc single := single_eq ▸ Loc.ite _ cls_loc.tl (Loc.ite _ (Loc.ret _).tl (orKind_loc byte1_loc byte1_eats))
theorem dot_eats : Eats (fun l => if sees [46] l then R.ok dotSet l.tail else orKind byte1 l) := by
  intro l a r h
  simp only at h
  split at h
  · rename_i hs
    cases l with
    | nil => simp [sees] at hs
    | cons b l => cases h; simp
  · exact orKind_eats byte1_eats _ _ _ h
theorem single_eats : Eats single := single_eq ▸ Eats.ite _ cls_eats.tl dot_eats

theorem oneOf_memL {s l : List Nat} {c : Nat} {r : List Nat} (h : oneOf s l = .ok c r) : c ∈ s ∧ l = c :: r := by
  unfold oneOf at h
  split at h
  · rename_i hs
    cases l with
    | nil => simp [sees] at hs
    | cons b l => cases h; simpa [sees] using hs
  · cases h
def nval (c : Nat) (l1 : List Nat) : Nat := if sees digits l1 then 10 * (c - 48) + (l1.headD 0 - 48) else c - 48
def nrest (l1 : List Nat) : List Nat := if sees digits l1 then l1.tail else l1
theorem num_eq (least : Nat) (l : List Nat) : num least l = (oneOf digits l).then fun c l1 => if nval c l1 < least ∨ 20 < nval c l1 then .bad 60 l else .ok (nval c l1) (nrest l1) := rfl
theorem nrest_suf (l : List Nat) : nrest l <:+ l := by
  unfold nrest
  split
  · exact List.tail_suffix _
  · exact List.suffix_refl _
theorem nval_same (d : Nat) {p : List Nat} {c : Nat} {x y : List Nat} {q : List Nat} (h : nrest (p ++ c :: x) = q ++ c :: x) : nval d (p ++ c :: y) = nval d (p ++ c :: x) ∧ nrest (p ++ c :: y) = q ++ c :: y := by
  unfold nrest nval at *
  rw [sees_same digits p c x y] at *
  cases p with
  | nil =>
    simp only [List.nil_append] at *
    cases hsn : sees digits (c :: y)
    · simp only [hsn, Bool.false_eq_true, if_false] at h ⊢
      refine ⟨trivial, ?_⟩
      have hq : [] = q := List.append_cancel_right (as := []) (bs := c :: x) h
      rw [← hq]; rfl
    · simp only [hsn, if_true, List.tail_cons] at h
      exact (no_suf (q := q) (c := c) (x := x) ⟨[], by simpa using h.symm⟩).elim
  | cons b p =>
    simp only [List.cons_append, List.headD_cons, List.tail_cons] at *
    refine ⟨trivial, ?_⟩
    split at h
    · rename_i hs; simp only [hs, if_true]; rw [List.append_cancel_right h]
    · rename_i hs
      simp only [hs, Bool.false_eq_true, if_false]
      have : b :: p = q := List.append_cancel_right (by simpa using h)
      rw [← this]; rfl
theorem num_loc (least : Nat) : Loc (num least) where
  suf := by
    intro l a r h
    rw [num_eq] at h
    cases hl : oneOf digits l with
    | ok c l1 =>
      simp only [hl, R.then] at h
      split at h
      · cases h
      · cases h
        exact (nrest_suf _).trans ((oneOf_loc digits).suf _ _ _ hl)
    | bad e l1 => simp [hl, R.then] at h
  sufb := by
    intro l a r h
    rw [num_eq] at h
    cases hl : oneOf digits l with
    | ok c l1 =>
      simp only [hl, R.then] at h
      split at h
      · cases h; exact List.suffix_refl _
      · cases h
    | bad e l1 => simp only [hl, R.then] at h; cases h; exact (oneOf_loc digits).sufb _ _ _ hl
  ok := by
    intro p c x y a q h
    rw [num_eq] at h ⊢
    cases hl : oneOf digits (p ++ c :: x) with
    | ok d l1 =>
      simp only [hl, R.then] at h
      split at h
      · cases h
      · rename_i hb
        injection h with h1 h2
        obtain ⟨p', rfl⟩ := parted (h2 ▸ nrest_suf l1) ((oneOf_loc digits).suf _ _ _ hl)
        simp only [(oneOf_loc digits).ok _ _ _ y _ _ hl, R.then]
        obtain ⟨e1, e2⟩ := nval_same d (y := y) h2
        rw [e1, e2, if_neg hb, h1]
    | bad e l1 => simp [hl, R.then] at h
  bad := by
    intro p c x y hc h
    rw [num_eq] at h ⊢
    cases hl : oneOf digits (p ++ c :: x) with
    | ok d l1 =>
      obtain ⟨hd, hp⟩ := oneOf_memL hl
      simp only [hl, R.then] at h
      split at h
      · injection h with _ h
        have hpn : p = [] := by
          have := congrArg List.length h
          simp at this
          exact this
        subst hpn
        injection hp with hp _
        exact (hc.1 (hp ▸ hd)).elim
      · cases h
    | bad e l1 =>
      simp only [hl, R.then] at h
      cases h
      simp only [(oneOf_loc digits).bad _ _ _ y hc hl, R.then]

theorem bounds_loc : Loc bounds := (num_loc 0).bind fun a =>
  Loc.ite _ (Loc.ite (f := fun l => (num a l).then fun b l2 => (oneOf [125] l2).then fun _ l3 => R.ok ((a : Int), (b : Int)) l3) (g := fun l => (oneOf [125] l).then fun _ l3 => R.ok ((a : Int), -1) l3) digits
    ((num_loc a).bind fun b => (oneOf_loc _).bind fun _ => Loc.ret _) ((oneOf_loc _).bind fun _ => Loc.ret _)).tl ((oneOf_loc _).bind fun _ => Loc.ret _)
theorem times_loc : Loc times := step_loc.bind fun c => Loc.cond _ (Loc.ret _) (Loc.cond _ (Loc.ret _) (Loc.cond _ (Loc.ret _) bounds_loc))
theorem times_eats : Eats times := step_eats.bind fun c => Loc.cond _ (Loc.ret _) (Loc.cond _ (Loc.ret _) (Loc.cond _ (Loc.ret _) bounds_loc))

theorem reps_eq : ∀ n t l, reps n t l = loopG (fun l => !sees [42, 43, 63, 123] l) (fun t l => R.ok t l) times again n t l
  | 0, t, l => rfl
  | n + 1, t, l => by
    simp only [reps, loopG]
    cases sees [42, 43, 63, 123] l
    · rfl
    · simp only [if_true, Bool.not_true]
      cases times l with
      | ok z l1 => simp only [R.then]; exact reps_eq n _ l1
      | bad e l1 => rfl
theorem reps_loc (t : Tr) : Loc (fun l => reps (l.length + 1) t l) := by
  have h := loop_loc (stop := fun l => !sees [42, 43, 63, 123] l) (fin := fun t l => R.ok t l) (upd := again) (fun p c x y => by rw [sees_same _ p c x y]) (fun q => Loc.ret q) times_loc times_eats t
  simpa only [← reps_eq] using h

theorem atom_loc {g : List Nat → R Tr} (hg : Loc g) : Loc (atom g) := Loc.ite _ hg (single_loc.bind fun q => Loc.ret _)
theorem atom_eats {g : List Nat → R Tr} (hg : Eats g) : Eats (atom g) := Eats.ite _ hg (single_eats.bind fun q => Loc.ret _)
theorem item_loc {g : List Nat → R Tr} (hg : Loc g) : Loc (item g) := (atom_loc hg).bind fun t => reps_loc t
theorem item_eats {g : List Nat → R Tr} (he : Eats g) : Eats (item g) := (atom_eats he).bind fun t => reps_loc t

theorem items_eq (g : List Nat → R Tr) : ∀ n ks l, items g n ks l = loopG (fun l => decide (l = [] ∨ sees [124, 41] l)) (fun ks l => R.ok (grown 2 ks) l) (item g) (fun ks t => laid ks t 2) n ks l
  | 0, ks, l => rfl
  | n + 1, ks, l => by
    simp only [items, loopG, decide_eq_true_eq]
    split
    · rfl
    · cases item g l with
      | ok z l1 => simp only [R.then]; exact items_eq g n _ l1
      | bad e l1 => rfl
theorem cat_loc {g : List Nat → R Tr} (hg : Loc g) (he : Eats g) : Loc (cat g) := by
  have h := loop_loc (stop := fun l => decide (l = [] ∨ sees [124, 41] l)) (fin := fun ks l => R.ok (grown 2 ks) l) (upd := fun ks t => laid ks t 2) (fun p c x y => by rw [sees_same _ p c x y]; simp) (fun q => Loc.ret _) (item_loc hg) (item_eats he) []
  simp only [← items_eq] at h
  exact h
theorem alts_eq (g : List Nat → R Tr) : ∀ n ks l, alts g n ks l = loopG (fun l => !sees [124] l) (fun ks l => R.ok (grown 3 ks) l) (fun l => if sees [124] l then cat g l.tail else .bad 60 l) (fun ks t => laid ks t 3) n ks l
  | 0, ks, l => rfl
  | n + 1, ks, l => by
    simp only [alts, loopG]
    cases hs : sees [124] l
    · rfl
    · simp only [if_true, Bool.not_true]
      cases cat g l.tail with
      | ok z l1 => simp only [R.then]; exact alts_eq g n _ l1
      | bad e l1 => rfl
theorem alts_loc {g : List Nat → R Tr} (hg : Loc g) (he : Eats g) (ks : List Tr) : Loc (fun l => alts g (l.length + 1) ks l) := by
  have h := loop_loc (stop := fun l => !sees [124] l) (fin := fun ks l => R.ok (grown 3 ks) l) (f := fun l => if sees [124] l then cat g l.tail else .bad 60 l) (upd := fun ks t => laid ks t 3) (fun p c x y => by rw [sees_same _ p c x y]) (fun q => Loc.ret _) (Loc.ite _ (cat_loc hg he).tl Loc.wrong) (by
    intro l a r h
    simp only at h
    split at h
    · rename_i hs
      have := ((cat_loc hg he).suf _ _ _ h).length_le
      cases l with
      | nil => simp [sees] at hs
      | cons b l => simp at this ⊢; omega
    · cases h) ks
  simpa only [← alts_eq] using h
theorem altOf_loc {g : List Nat → R Tr} (hg : Loc g) (he : Eats g) : Loc (altOf g) := (cat_loc hg he).bind fun t => alts_loc hg he _
theorem group_both : ∀ d, Loc (group d) ∧ Eats (group d)
  | 0 => by
    refine ⟨⟨?_, ?_, ?_, ?_⟩, ?_⟩
    · rintro l a r h; cases h
    · rintro l e r h; cases h; exact List.suffix_refl _
    · rintro p c x y a q h; cases h
    · rintro p c x y _ h; cases h
    · rintro l a r h; cases h
  | d + 1 => by
    have ih := group_both d
    exact ⟨(oneOf_loc _).bind fun _ => (altOf_loc ih.1 ih.2).bind fun t => (oneOf_loc _).bind fun _ => Loc.ret _,
      (oneOf_eats _).bind fun _ => (altOf_loc ih.1 ih.2).bind fun t => (oneOf_loc _).bind fun _ => Loc.ret _⟩
theorem alt_loc (d : Nat) : Loc (alt d) := altOf_loc (group_both d).1 (group_both d).2

/-- what stands behind the byte that is wrong changes nothing, if that is no digit and no backslash -/
theorem parse_place {l : List Nat} (h60 : (parse l).2.1 = 60) (hat : (parse l).2.2 < l.length) (y : List Nat) (hc : plainB (l.getD (parse l).2.2 0)) (hy : (parse l).2.2 + 1 + y.length ≤ 512) :
    (parse (l.take ((parse l).2.2 + 1) ++ y)).2 = (60, (parse l).2.2) := by
  have key : ∃ p c x, l = p ++ c :: x ∧ (parse l).2.2 = p.length ∧ (alt 30 l = .bad 60 (c :: x) ∨ ∃ t, alt 30 l = .ok t (c :: x)) := by
    unfold parse at h60 hat ⊢
    split at h60
    · simp at h60
    · rename_i hlen
      simp only [hlen, if_false] at hat ⊢
      cases hl : alt 30 l with
      | bad e r =>
        simp only [hl] at h60 hat ⊢
        subst h60
        obtain ⟨p, hp⟩ := (alt_loc 30).sufb _ _ _ hl
        cases r with
        | nil => simp at hat
        | cons c x => exact ⟨p, c, x, hp.symm, by rw [← hp]; simp, Or.inl rfl⟩
      | ok t r =>
        simp only [hl] at h60 hat ⊢
        obtain ⟨p, hp⟩ := (alt_loc 30).suf _ _ _ hl
        cases r with
        | nil =>
          simp only [ne_eq, not_true_eq_false, if_false] at h60
          split at h60 <;> simp at h60
        | cons c x => exact ⟨p, c, x, hp.symm, by rw [← hp]; simp, Or.inr ⟨t, rfl⟩⟩
  obtain ⟨p, c, x, rfl, hp, halt⟩ := key
  rw [hp] at hc hy ⊢
  have hcc : plainB c := by simpa [List.getD] using hc
  have ht : (p ++ c :: x).take (p.length + 1) ++ y = p ++ c :: y := by
    rw [show p ++ c :: x = (p ++ [c]) ++ x by simp, List.take_left' (by simp)]
    simp
  rw [ht]
  have hn : ¬ 512 < (p ++ c :: y).length := by simp; omega
  unfold parse
  simp only [hn, if_false]
  rcases halt with h | ⟨t, h⟩
  · rw [(alt_loc 30).bad _ _ _ y hcc h]
    simp
  · rw [(alt_loc 30).ok p c x y t [] h]
    simp
theorem parse_long {l : List Nat} (h : 512 < l.length) : (parse l).2 = (2, 0) := by simp [parse, h]
end Go.Proofs.Ytjfnefmolhihaaa.st
