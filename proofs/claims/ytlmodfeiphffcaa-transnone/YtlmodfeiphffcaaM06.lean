/-
  Texts put together: Plain mathematics, no program: rules, which of them counts where a text begins, what a text is rewritten to. Plain mathematics, no program: rewriting byte by byte: what waits, what is put at a byte, what becomes of what waits for what does not come. Plain mathematics, no program: how much there is of a machine of rules: its states, its texts, how long these are.
-/
import Derived.WalkKit
namespace Go.Proofs.Ytlmodfeiphffcaa.ru
set_option linter.unusedVariables false

structure Ru where
  fr : ByteArray
  to : ByteArray

def Ru.f (r : Ru) : List UInt8 := r.fr.data.toList
def Ru.t (r : Ru) : List UInt8 := r.to.data.toList
theorem Ru.f_len (r : Ru) : r.f.length = r.fr.size := by cases r with | mk a b => cases a; rfl
theorem Ru.t_len (r : Ru) : r.t.length = r.to.size := by cases r with | mk a b => cases b; rfl
theorem ba_ext {a b : ByteArray} (h : a.data.toList = b.data.toList) : a = b := by
  cases a with | mk a => cases b with | mk b => simp at h; rw [h]

/-- a rule that may not be, whatever stands beside it -/
def bad (r : Ru) : Bool := r.fr.size == 0 || decide (16 < r.fr.size) || decide (32 < r.to.size)
theorem bad_no {r : Ru} : bad r = false ↔ 1 ≤ r.fr.size ∧ r.fr.size ≤ 16 ∧ r.to.size ≤ 32 := by
  unfold bad
  rw [Bool.or_eq_false_iff, Bool.or_eq_false_iff, decide_eq_false_iff_not, decide_eq_false_iff_not, beq_eq_false_iff_ne]
  omega

def Once (l : List Ru) : Prop := (l.map Ru.f).Nodup
def Good (l : List Ru) : Prop := l.length ≤ 64 ∧ (∀ r ∈ l, bad r = false) ∧ Once l
instance (l : List Ru) : Decidable (Good l) := by unfold Good Once; infer_instance

/-- whether rules may be -/
def rightE (l : List Ru) : Nat := if 64 < l.length then 2 else if Good l then 0 else 110

theorem rightE_ok {l : List Ru} (h : Good l) : rightE l = 0 := by unfold rightE; rw [if_neg (by have := h.1; omega), if_pos h]
theorem rightE_zero {l : List Ru} (h : rightE l = 0) : Good l := by
  unfold rightE at h
  split at h
  · omega
  · split at h
    · assumption
    · omega

theorem Good.pos {l : List Ru} (h : Good l) {r : Ru} (hr : r ∈ l) : 0 < r.f.length ∧ r.f.length ≤ 16 ∧ r.t.length ≤ 32 := by
  have := bad_no.1 (h.2.1 r hr)
  rw [r.f_len, r.t_len]
  omega

/-- how many bytes a byte may become -/
def up (a b : Nat) : Nat := (b + a - 1) / a
def growP : List Ru → Nat
  | [] => 1
  | r :: l => max (up r.fr.size r.to.size) (growP l)
def growN (n : Nat) (l : List Ru) : Nat := l.foldl (fun n r => max n (up r.fr.size r.to.size)) n

theorem growN_ge (l : List Ru) : ∀ n, n ≤ growN n l := by
  induction l with
  | nil => intro n; exact Nat.le_refl _
  | cons r l ih => intro n; exact Nat.le_trans (Nat.le_max_left _ _) (ih _)
theorem growN_mem (l : List Ru) : ∀ n, ∀ r ∈ l, up r.fr.size r.to.size ≤ growN n l := by
  induction l with
  | nil => intro n r hr; simp at hr
  | cons x l ih =>
    intro n r hr
    rcases List.mem_cons.1 hr with rfl | hr
    · exact Nat.le_trans (Nat.le_max_right _ _) (growN_ge l _)
    · exact ih _ r hr
theorem up_mul {a b : Nat} (ha : 0 < a) : b ≤ up a b * a := by
  unfold up
  have h := Nat.div_add_mod (b + a - 1) a
  have h2 := Nat.mod_lt (b + a - 1) ha
  have h3 : (b + a - 1) / a * a = a * ((b + a - 1) / a) := Nat.mul_comm _ _
  omega
theorem up_le {a b n : Nat} (ha : 0 < a) (h : b ≤ n * a) : up a b ≤ n := by
  unfold up
  have : (b + a - 1) / a < n + 1 := by
    rw [Nat.div_lt_iff_lt_mul ha, Nat.add_mul]
    omega
  omega
theorem growN_le (l : List Ru) (h : ∀ r ∈ l, bad r = false) : ∀ n, n ≤ 32 → growN n l ≤ 32 := by
  induction l with
  | nil => intro n hn; exact hn
  | cons r l ih =>
    intro n hn
    refine ih (fun x hx => h x (List.mem_cons_of_mem _ hx)) _ ?_
    have hb := bad_no.1 (h r (List.mem_cons_self ..))
    have : up r.fr.size r.to.size ≤ 32 := up_le (by omega) (by
      have h1 : 1 ≤ r.fr.size := by omega
      have : 32 * 1 ≤ 32 * r.fr.size := Nat.mul_le_mul_left _ h1
      omega)
    show max n _ ≤ 32
    omega

/-- which rule counts where a text begins: the one with the longest From -/
def bl : Option Ru → Nat
  | none => 0
  | some r => r.f.length
def step (s : List UInt8) (b : Option Ru) (r : Ru) : Option Ru := if r.f.isPrefixOf s && decide (bl b < r.f.length) then some r else b
def best (l : List Ru) (s : List UInt8) : Option Ru := l.foldl (step s) none

/-- what the one that counts is -/
def IsBest (l : List Ru) (s : List UInt8) (o : Option Ru) : Prop :=
  (∀ r, o = some r → r ∈ l ∧ r.f <+: s) ∧ ∀ r ∈ l, r.f <+: s → r.f.length ≤ bl o

theorem best_aux (s : List UInt8) (l : List Ru) : ∀ (l0 : List Ru) (b : Option Ru), IsBest l0 s b → IsBest (l0 ++ l) s (l.foldl (step s) b) := by
  induction l with
  | nil => intro l0 b h; simpa using h
  | cons x l ih =>
    intro l0 b h
    have : IsBest (l0 ++ [x]) s (step s b x) := by
      unfold step
      by_cases hx : (x.f.isPrefixOf s && decide (bl b < x.f.length)) = true
      · rw [if_pos hx]
        simp at hx
        refine ⟨fun r hr => ?_, fun r hr hp => ?_⟩
        · obtain rfl := Option.some.inj hr
          exact ⟨by simp, hx.1⟩
        · rcases List.mem_append.1 hr with hr | hr
          · have := h.2 r hr hp
            show _ ≤ x.f.length
            omega
          · rw [List.mem_singleton.1 hr]
            exact Nat.le_refl _
      · rw [if_neg hx]
        refine ⟨fun r hr => ⟨List.mem_append_left _ (h.1 r hr).1, (h.1 r hr).2⟩, fun r hr hp => ?_⟩
        rcases List.mem_append.1 hr with hr | hr
        · exact h.2 r hr hp
        · rw [List.mem_singleton.1 hr] at hp ⊢
          simp at hx
          exact hx hp
    have h2 := ih (l0 ++ [x]) _ this
    rw [List.append_assoc] at h2
    exact h2
theorem best_is (l : List Ru) (s : List UInt8) : IsBest l s (best l s) := by
  have h0 : IsBest [] s none := ⟨fun r hr => (by cases hr), fun r hr => absurd hr (by simp)⟩
  exact best_aux s l [] none h0

theorem once_eq {l : List Ru} (h : Once l) {a b : Ru} (ha : a ∈ l) (hb : b ∈ l) (e : a.f = b.f) : a = b := by
  induction l with
  | nil => simp at ha
  | cons x l ih =>
    unfold Once at h
    rw [List.map_cons, List.nodup_cons] at h
    rcases List.mem_cons.1 ha with ha1 | ha
    · rcases List.mem_cons.1 hb with hb1 | hb
      · rw [ha1, hb1]
      · exact absurd (List.mem_map.2 ⟨b, hb, by rw [← e, ha1]⟩) h.1
    · rcases List.mem_cons.1 hb with hb1 | hb
      · exact absurd (List.mem_map.2 ⟨a, ha, by rw [e, hb1]⟩) h.1
      · exact ih h.2 ha hb
theorem pre_eq {a b s : List UInt8} (ha : a <+: s) (hb : b <+: s) (h : a.length = b.length) : a = b := by
  obtain ⟨x, rfl⟩ := ha
  obtain ⟨y, hy⟩ := hb
  exact ((List.append_inj hy h.symm).1).symm
theorem isBest_unique {l : List Ru} (h : Good l) {s : List UInt8} {o p : Option Ru} (ho : IsBest l s o) (hp : IsBest l s p) : o = p := by
  cases o with
  | none =>
    cases p with
    | none => rfl
    | some r =>
      have h1 := hp.1 r rfl
      have h2 := ho.2 r h1.1 h1.2
      have h3 := h.pos h1.1
      simp [bl] at h2
      rw [h2] at h3
      simp at h3
  | some q =>
    have hq := ho.1 q rfl
    cases p with
    | none =>
      have h2 := hp.2 q hq.1 hq.2
      have h3 := h.pos hq.1
      simp [bl] at h2
      rw [h2] at h3
      simp at h3
    | some r =>
      have hr := hp.1 r rfl
      have h1 : q.f.length ≤ r.f.length := hp.2 q hq.1 hq.2
      have h2 : r.f.length ≤ q.f.length := ho.2 r hr.1 hr.2
      rw [once_eq h.2.2 hq.1 hr.1 (pre_eq hq.2 hr.2 (by omega))]

/-- what a text is rewritten to -/
def app (l : List Ru) : Nat → List UInt8 → List UInt8
  | 0, _ => []
  | _ + 1, [] => []
  | n + 1, b :: s => match best l (b :: s) with
    | some r => r.t ++ app l n ((b :: s).drop r.f.length)
    | none => b :: app l n s
def ap (l : List Ru) (s : List UInt8) : List UInt8 := app l s.length s

theorem app_fuel {l : List Ru} (h : Good l) : ∀ (n : Nat) (s : List UInt8), s.length ≤ n → app l n s = ap l s := by
  intro n
  induction n using Nat.strongRecOn with
  | _ n ih =>
    intro s hs
    cases s with
    | nil => cases n <;> rfl
    | cons b s =>
      cases n with
      | zero => simp at hs
      | succ n =>
        simp at hs
        unfold ap
        rw [List.length_cons, app, app]
        cases e : best l (b :: s) with
        | none =>
          simp only []
          rw [ih n (by omega) s hs]
          rfl
        | some r =>
          have hr := (best_is l (b :: s)).1 r e
          have hp := h.pos hr.1
          have hd : ((b :: s).drop r.f.length).length ≤ s.length := by rw [List.length_drop, List.length_cons]; omega
          simp only []
          rw [ih n (by omega) _ (Nat.le_trans hd hs), ih s.length (by omega) _ hd]
theorem ap_nil (l : List Ru) : ap l [] = [] := rfl
theorem ap_none {l : List Ru} (h : Good l) {b : UInt8} {s : List UInt8} (e : best l (b :: s) = none) : ap l (b :: s) = b :: ap l s := by
  rw [← app_fuel h (s.length + 1) (b :: s) (by simp), app, e]
  simp only []
  rw [app_fuel h _ _ (Nat.le_refl _)]
theorem ap_some {l : List Ru} (h : Good l) {r : Ru} {s : List UInt8} (e : best l s = some r) : ap l s = r.t ++ ap l (s.drop r.f.length) := by
  have hr := (best_is l s).1 r e
  have hp := h.pos hr.1
  cases s with
  | nil => have := hr.2.length_le; rw [List.length_nil] at this; omega
  | cons b s =>
    rw [← app_fuel h (s.length + 1) (b :: s) (by simp), app, e]
    simp only []
    rw [app_fuel h _ _ (by rw [List.length_drop, List.length_cons]; omega)]

/-- two lists of rules of which, at every place of a text, the same one counts, rewrite it the same -/
theorem ap_same {l k : List Ru} (hl : Good l) (hk : Good k) : ∀ (n : Nat) (s : List UInt8), s.length ≤ n → (∀ u, u <:+ s → best l u = best k u) → ap l s = ap k s := by
  intro n
  induction n with
  | zero =>
    intro s hs _
    have : s = [] := List.length_eq_zero_iff.1 (by omega)
    subst this
    rfl
  | succ n ih =>
    intro s hs he
    cases s with
    | nil => rfl
    | cons b s =>
      have e := he _ (List.suffix_refl _)
      simp at hs
      cases e1 : best l (b :: s) with
      | none =>
        rw [ap_none hl e1, ap_none hk (by rw [← e]; exact e1), ih s hs fun u hu => he u (hu.trans (List.suffix_cons b s))]
      | some r =>
        have hp := hl.pos ((best_is l _).1 r e1).1
        rw [ap_some hl e1, ap_some hk (by rw [← e]; exact e1), ih _ (by rw [List.length_drop, List.length_cons]; omega) fun u hu => he u (hu.trans (List.drop_suffix _ _))]

/-- a rewritten text is not longer than so many times the text -/
theorem ap_len {l : List Ru} (h : Good l) {k : Nat} (hk : 1 ≤ k) (hg : ∀ r ∈ l, r.t.length ≤ k * r.f.length) : ∀ (n : Nat) (s : List UInt8), s.length ≤ n → (ap l s).length ≤ k * s.length := by
  intro n
  induction n with
  | zero =>
    intro s hs
    have : s = [] := List.length_eq_zero_iff.1 (by omega)
    subst this
    exact Nat.zero_le _
  | succ n ih =>
    intro s hs
    cases s with
    | nil => exact Nat.zero_le _
    | cons b s =>
      cases e : best l (b :: s) with
      | none =>
        simp at hs
        rw [ap_none h e, List.length_cons, List.length_cons, Nat.mul_add]
        have := ih s hs
        omega
      | some r =>
        have hr := (best_is l _).1 r e
        have hp := h.pos hr.1
        have hle := hr.2.length_le
        rw [ap_some h e, List.length_append]
        have h1 := ih ((b :: s).drop r.f.length) (by rw [List.length_drop]; simp at hs ⊢; omega)
        have h2 := hg r hr.1
        rw [List.length_drop] at h1
        have h3 : k * (b :: s).length = k * r.f.length + k * ((b :: s).length - r.f.length) := by rw [← Nat.mul_add]; congr 1; omega
        omega
theorem grow_all {l : List Ru} (h : Good l) : ∀ r ∈ l, r.t.length ≤ growN 1 l * r.f.length := by
  intro r hr
  have hp := h.pos hr
  rw [r.t_len, r.f_len] at *
  have h1 := growN_mem l 1 r hr
  have h2 : r.to.size ≤ up r.fr.size r.to.size * r.fr.size := up_mul (by omega)
  exact Nat.le_trans h2 (Nat.mul_le_mul_right _ h1)
theorem ap_grow {l : List Ru} (h : Good l) (s : List UInt8) : (ap l s).length ≤ growN 1 l * s.length :=
  ap_len h (growN_ge l 1) (grow_all h) s.length s (Nat.le_refl _)

/-- which one counts hangs on which begin the text alone -/
theorem best_congr {l : List Ru} {s u : List UInt8} (h : ∀ r ∈ l, r.f <+: s ↔ r.f <+: u) : best l s = best l u := by
  unfold best
  have : ∀ (b : Option Ru), (∀ r ∈ l, r.f <+: s ↔ r.f <+: u) → l.foldl (step s) b = l.foldl (step u) b := by
    induction l with
    | nil => intro b _; rfl
    | cons x l ih =>
      intro b hx
      have h1 : step s b x = step u b x := by
        unfold step
        have h2 := hx x (List.mem_cons_self ..)
        have : x.f.isPrefixOf s = x.f.isPrefixOf u := by
          rw [Bool.eq_iff_iff, List.isPrefixOf_iff_prefix, List.isPrefixOf_iff_prefix]
          exact h2
        rw [this]
      rw [List.foldl_cons, List.foldl_cons, h1]
      exact ih (fun r hr => hx r (List.mem_cons_of_mem _ hr)) _ (fun r hr => hx r (List.mem_cons_of_mem _ hr))
  exact this none h

/-- a text whose last bytes begin no From is rewritten by itself -/
theorem ap_append {l : List Ru} (h : Good l) (b : List UInt8) : ∀ (n : Nat) (a : List UInt8), a.length ≤ n → (∀ u, u <:+ a → u ≠ [] → ∀ r ∈ l, ¬ u <+: r.f) → ap l (a ++ b) = ap l a ++ ap l b := by
  intro n
  induction n with
  | zero =>
    intro a hs _
    have : a = [] := List.length_eq_zero_iff.1 (by omega)
    subst this
    rfl
  | succ n ih =>
    intro a hs hno
    cases a with
    | nil => rfl
    | cons x a =>
      have hb : best l (x :: a ++ b) = best l (x :: a) := by
        refine best_congr fun r hr => ⟨fun hp => ?_, fun hp => hp.trans (List.prefix_append _ _)⟩
        by_cases hl : r.f.length ≤ (x :: a).length
        · exact List.prefix_of_prefix_length_le hp (List.prefix_append _ _) hl
        · exact absurd (List.prefix_of_prefix_length_le (List.prefix_append _ _) hp (by omega)) (hno _ (List.suffix_refl _) (by simp) r hr)
      cases e : best l (x :: a) with
      | none =>
        simp at hs
        rw [e] at hb
        rw [ap_none h e]
        have hb' : best l (x :: (a ++ b)) = none := hb
        rw [List.cons_append, ap_none h hb', List.cons_append, ih a hs fun u hu => hno u (hu.trans (List.suffix_cons x a))]
      | some r =>
        have hr := (best_is l _).1 r e
        have hp := h.pos hr.1
        rw [ap_some h (hb.trans e), ap_some h e, List.append_assoc, List.drop_append_of_le_length hr.2.length_le, ih _ (by rw [List.length_drop]; simp at hs ⊢; omega) fun u hu => hno u (hu.trans (List.drop_suffix _ _))]

/-- a text in which no From stands stays as it is -/
theorem ap_idle {l : List Ru} (h : Good l) : ∀ (n : Nat) (s : List UInt8), s.length ≤ n → (∀ u, u <:+ s → ∀ r, best l u = some r → r.t = r.f) → ap l s = s := by
  intro n
  induction n with
  | zero =>
    intro s hs _
    have : s = [] := List.length_eq_zero_iff.1 (by omega)
    subst this
    rfl
  | succ n ih =>
    intro s hs hno
    cases s with
    | nil => rfl
    | cons x s =>
      cases e : best l (x :: s) with
      | none =>
        simp at hs
        rw [ap_none h e, ih s hs fun u hu => hno u (hu.trans (List.suffix_cons x s))]
      | some r =>
        have hr := (best_is l _).1 r e
        have hp := h.pos hr.1
        have hd := hno _ (List.suffix_refl _) r e
        rw [ap_some h e, ih _ (by rw [List.length_drop]; simp at hs ⊢; omega) fun u hu => hno u (hu.trans (List.drop_suffix _ _)), hd]
        obtain ⟨y, hy⟩ := hr.2
        rw [← hy, List.drop_left]
end Go.Proofs.Ytlmodfeiphffcaa.ru

namespace Go.Proofs.Ytlmodfeiphffcaa.ru.rw
set_option linter.unusedVariables false

/-- a longer From begins with it -/
def waits (l : List Ru) (u : List UInt8) : Bool := l.any fun r => decide (u.length < r.f.length) && u.isPrefixOf r.f
theorem waits_iff {l : List Ru} {u : List UInt8} : waits l u = true ↔ ∃ r ∈ l, u.length < r.f.length ∧ u <+: r.f := by
  unfold waits
  simp [List.any_eq_true]
/-- it is a From -/
def whole (l : List Ru) (u : List UInt8) : Option Ru := l.find? fun r => r.f == u
theorem whole_some {l : List Ru} {u : List UInt8} {r : Ru} (h : whole l u = some r) : r ∈ l ∧ r.f = u := by
  unfold whole at h
  have h1 := List.find?_some h
  exact ⟨List.mem_of_find?_eq_some h, by simpa using h1⟩
theorem whole_none {l : List Ru} {u : List UInt8} (h : whole l u = none) : ∀ r ∈ l, r.f ≠ u := by
  unfold whole at h
  intro r hr e
  have := List.find?_eq_none.1 h r hr
  simp [e] at this
/-- what is put where a text begins, and the text behind that -/
def first (l : List Ru) (s : List UInt8) : List UInt8 × List UInt8 := match best l s with
  | some r => (r.t, s.drop r.f.length)
  | none => (s.take 1, s.drop 1)
/-- a byte more, by rounds -/
def stpN (l : List Ru) : Nat → List UInt8 → UInt8 → List UInt8 × List UInt8
  | 0, _, _ => ([], [])
  | n + 1, w, b => if waits l (w ++ [b]) = true then ([], w ++ [b]) else match whole l (w ++ [b]) with
    | some r => (r.t, [])
    | none => if w = [] then ([b], []) else
      let f := (first l w).2.foldl (fun (a : List UInt8 × List UInt8) c => (a.1 ++ (stpN l n a.2 c).1, (stpN l n a.2 c).2)) ((first l w).1, [])
      (f.1 ++ (stpN l n f.2 b).1, (stpN l n f.2 b).2)
def foldN (l : List Ru) (n : Nat) (a : List UInt8 × List UInt8) (s : List UInt8) : List UInt8 × List UInt8 := s.foldl (fun a c => (a.1 ++ (stpN l n a.2 c).1, (stpN l n a.2 c).2)) a
theorem first_len {l : List Ru} (h : Good l) {w : List UInt8} (hw : w ≠ []) : (first l w).2.length < w.length := by
  have : 0 < w.length := List.length_pos_iff.2 hw
  unfold first
  split
  · rename_i r e
    have := (h.pos ((best_is l w).1 r e).1).1
    simp
    omega
  · simp
    omega
theorem first_ap {l : List Ru} (h : Good l) {w : List UInt8} (hw : w ≠ []) (x : List UInt8) (hb : best l (w ++ x) = best l w) : ap l (w ++ x) = (first l w).1 ++ ap l ((first l w).2 ++ x) := by
  unfold first
  cases e : best l w with
  | some r =>
    have hp := ((best_is l w).1 r e).2.length_le
    rw [ap_some h (hb.trans e), List.drop_append_of_le_length hp]
  | none =>
    cases w with
    | nil => exact absurd rfl hw
    | cons b w => exact ap_none h (hb.trans e)
/-- what a round does, whatever the fold does -/
theorem foldN_len {l : List Ru} {n : Nat} (hn : ∀ w b, w.length < n → (stpN l n w b).2.length ≤ w.length + 1) : ∀ (s : List UInt8) (a : List UInt8 × List UInt8), a.2.length + s.length ≤ n → (foldN l n a s).2.length ≤ a.2.length + s.length := by
  intro s
  induction s with
  | nil => intro a _; exact Nat.le_refl _
  | cons c s ih =>
    intro a ha
    simp at ha
    have h1 := hn a.2 c (by omega)
    have := ih (a.1 ++ (stpN l n a.2 c).1, (stpN l n a.2 c).2) (by simp; omega)
    simp at this
    show (foldN l n _ s).2.length ≤ _
    simp
    omega
theorem stpN_len {l : List Ru} (h : Good l) : ∀ (n : Nat) (w : List UInt8) (b : UInt8), w.length < n → (stpN l n w b).2.length ≤ w.length + 1 := by
  intro n
  induction n with
  | zero => intro w b hw; omega
  | succ n ih =>
    intro w b hw
    unfold stpN
    split
    · simp
    · split
      · simp
      · split
        · simp
        · rename_i hne
          have hf := first_len h hne
          have h1 := foldN_len ih (first l w).2 ((first l w).1, []) (by simp; omega)
          simp at h1
          have h2 := ih (foldN l n ((first l w).1, []) (first l w).2).2 b (by omega)
          show (stpN l n (foldN l n ((first l w).1, []) (first l w).2).2 b).2.length ≤ _
          omega
theorem foldN_fuel {l : List Ru} (h : Good l) {n m : Nat} : ∀ (s : List UInt8) (a : List UInt8 × List UInt8), (∀ w b, w.length < a.2.length + s.length → stpN l n w b = stpN l m w b) → a.2.length + s.length ≤ n → foldN l n a s = foldN l m a s := by
  intro s
  induction s with
  | nil => intro a _ _; rfl
  | cons c s ih =>
    intro a he ha
    simp at ha
    have e := he a.2 c (by simp)
    have h1 := stpN_len h n a.2 c (by omega)
    show foldN l n (a.1 ++ (stpN l n a.2 c).1, (stpN l n a.2 c).2) s = foldN l m (a.1 ++ (stpN l m a.2 c).1, (stpN l m a.2 c).2) s
    rw [← e]
    exact ih _ (fun w b hw => he w b (by simp at hw ⊢; omega)) (by simp; omega)
theorem stpN_fuel {l : List Ru} (h : Good l) : ∀ (n m : Nat) (w : List UInt8) (b : UInt8), w.length < n → w.length < m → stpN l n w b = stpN l m w b := by
  intro n
  induction n with
  | zero => intro m w b hw; omega
  | succ n ih =>
    intro m w b hw hm
    cases m with
    | zero => omega
    | succ m =>
      unfold stpN
      split
      · rfl
      · split
        · rfl
        · split
          · rfl
          · rename_i hne
            have hf := first_len h hne
            have e : foldN l n ((first l w).1, []) (first l w).2 = foldN l m ((first l w).1, []) (first l w).2 := foldN_fuel h _ _ (fun u c hu => ih m u c (by simp at hu; omega) (by simp at hu; omega)) (by simp; omega)
            have h1 := foldN_len (stpN_len h n) (first l w).2 ((first l w).1, []) (by simp; omega)
            simp at h1
            have e2 := ih m (foldN l n ((first l w).1, []) (first l w).2).2 b (by omega) (by omega)
            show ((foldN l n ((first l w).1, []) (first l w).2).1 ++ (stpN l n (foldN l n ((first l w).1, []) (first l w).2).2 b).1, (stpN l n (foldN l n ((first l w).1, []) (first l w).2).2 b).2) = ((foldN l m ((first l w).1, []) (first l w).2).1 ++ (stpN l m (foldN l m ((first l w).1, []) (first l w).2).2 b).1, (stpN l m (foldN l m ((first l w).1, []) (first l w).2).2 b).2)
            rw [e2, e]
/-- a byte more -/
def stp (l : List Ru) (w : List UInt8) (b : UInt8) : List UInt8 × List UInt8 := stpN l (w.length + 1) w b
def fold (l : List Ru) (a : List UInt8 × List UInt8) (s : List UInt8) : List UInt8 × List UInt8 := s.foldl (fun a c => (a.1 ++ (stp l a.2 c).1, (stp l a.2 c).2)) a
/-- what becomes of a text that waits for what does not come -/
def fall (l : List Ru) (w : List UInt8) : List UInt8 × List UInt8 := fold l ((first l w).1, []) (first l w).2
theorem stp_len {l : List Ru} (h : Good l) (w : List UInt8) (b : UInt8) : (stp l w b).2.length ≤ w.length + 1 := stpN_len h _ w b (Nat.lt_succ_self _)
theorem fold_len {l : List Ru} (h : Good l) : ∀ (s : List UInt8) (a : List UInt8 × List UInt8), (fold l a s).2.length ≤ a.2.length + s.length := by
  intro s
  induction s with
  | nil => intro a; exact Nat.le_refl _
  | cons c s ih =>
    intro a
    have h1 := stp_len h a.2 c
    have := ih (a.1 ++ (stp l a.2 c).1, (stp l a.2 c).2)
    simp at this
    show (fold l _ s).2.length ≤ _
    simp
    omega
theorem fold_N {l : List Ru} (h : Good l) {n : Nat} : ∀ (s : List UInt8) (a : List UInt8 × List UInt8), a.2.length + s.length ≤ n → foldN l n a s = fold l a s := by
  intro s
  induction s with
  | nil => intro a _; rfl
  | cons c s ih =>
    intro a ha
    simp at ha
    have e : stpN l n a.2 c = stp l a.2 c := stpN_fuel h _ _ _ _ (by omega) (Nat.lt_succ_self _)
    have h1 := stp_len h a.2 c
    show foldN l n (a.1 ++ (stpN l n a.2 c).1, (stpN l n a.2 c).2) s = fold l (a.1 ++ (stp l a.2 c).1, (stp l a.2 c).2) s
    rw [e]
    exact ih _ (by simp; omega)
theorem fall_len {l : List Ru} (h : Good l) {w : List UInt8} (hw : w ≠ []) : (fall l w).2.length < w.length := by
  have h1 := fold_len h (first l w).2 ((first l w).1, [])
  have h2 := first_len h hw
  simp at h1
  unfold fall
  omega
theorem stp_eq {l : List Ru} (h : Good l) (w : List UInt8) (b : UInt8) : stp l w b = if waits l (w ++ [b]) = true then ([], w ++ [b]) else match whole l (w ++ [b]) with
    | some r => (r.t, [])
    | none => if w = [] then ([b], []) else ((fall l w).1 ++ (stp l (fall l w).2 b).1, (stp l (fall l w).2 b).2) := by
  unfold stp
  rw [stpN]
  split
  · rfl
  · split
    · rfl
    · split
      · rfl
      · rename_i hne
        have hf := first_len h hne
        have e : foldN l w.length ((first l w).1, []) (first l w).2 = fall l w := fold_N h _ _ (by simp; omega)
        have h1 := fall_len h hne
        have e2 := stpN_fuel h w.length ((fall l w).2.length + 1) (fall l w).2 b h1 (Nat.lt_succ_self _)
        show ((foldN l w.length ((first l w).1, []) (first l w).2).1 ++ (stpN l w.length (foldN l w.length ((first l w).1, []) (first l w).2).2 b).1, (stpN l w.length (foldN l w.length ((first l w).1, []) (first l w).2).2 b).2) = _
        rw [e, e2]
theorem stp_wait {l : List Ru} (h : Good l) {w : List UInt8} {b : UInt8} (hw : waits l (w ++ [b]) = true) : stp l w b = ([], w ++ [b]) := by rw [stp_eq h, if_pos hw]
theorem stp_whole {l : List Ru} (h : Good l) {w : List UInt8} {b : UInt8} (hw : waits l (w ++ [b]) = false) {r : Ru} (hr : whole l (w ++ [b]) = some r) : stp l w b = (r.t, []) := by rw [stp_eq h, if_neg (by simp [hw]), hr]
theorem stp_none {l : List Ru} (h : Good l) {b : UInt8} (hw : waits l [b] = false) (hr : whole l [b] = none) : stp l [] b = ([b], []) := by
  rw [stp_eq h, List.nil_append, if_neg (by simp [hw]), hr, if_pos rfl]
theorem stp_fall {l : List Ru} (h : Good l) {w : List UInt8} {b : UInt8} (hw : waits l (w ++ [b]) = false) (hr : whole l (w ++ [b]) = none) (hne : w ≠ []) : stp l w b = ((fall l w).1 ++ (stp l (fall l w).2 b).1, (stp l (fall l w).2 b).2) := by
  rw [stp_eq h, if_neg (by simp [hw]), hr]
  simp only [if_neg hne]
/-- which one counts, where nothing longer comes -/
theorem best_stop {l : List Ru} {w : List UInt8} {b : UInt8} (hw : waits l (w ++ [b]) = false) (x : List UInt8) : ∀ r ∈ l, r.f <+: w ++ b :: x → r.f <+: w ++ [b] := by
  intro r hr hp
  have e : w ++ b :: x = (w ++ [b]) ++ x := by simp
  rw [e] at hp
  by_cases hl : r.f.length ≤ (w ++ [b]).length
  · exact List.prefix_of_prefix_length_le hp (List.prefix_append _ _) hl
  · have h2 : w ++ [b] <+: r.f := List.prefix_of_prefix_length_le (List.prefix_append _ _) hp (by omega)
    have : waits l (w ++ [b]) = true := waits_iff.2 ⟨r, hr, by omega, h2⟩
    rw [hw] at this
    cases this
theorem best_fall {l : List Ru} {w : List UInt8} {b : UInt8} (hw : waits l (w ++ [b]) = false) (hr : whole l (w ++ [b]) = none) (x : List UInt8) : best l (w ++ b :: x) = best l w := by
  refine best_congr fun r hr' => ⟨fun hp => ?_, fun hp => hp.trans (List.prefix_append _ _)⟩
  have h1 := best_stop hw x r hr' hp
  rcases List.prefix_concat_iff.1 h1 with e | e
  · exact absurd e (whole_none hr r hr')
  · exact e
def Does (l : List Ru) (w : List UInt8) (b : UInt8) : Prop := ((stp l w b).2 = [] ∨ waits l (stp l w b).2 = true) ∧ ∀ x, ap l (w ++ b :: x) = (stp l w b).1 ++ ap l ((stp l w b).2 ++ x)
theorem fold_does {l : List Ru} (h : Good l) {n : Nat} : ∀ (s : List UInt8) (a : List UInt8 × List UInt8), (∀ w b, w.length < n → Does l w b) → a.2.length + s.length ≤ n → (a.2 = [] ∨ waits l a.2 = true) → ((fold l a s).2 = [] ∨ waits l (fold l a s).2 = true) ∧ ∀ x, a.1 ++ ap l (a.2 ++ (s ++ x)) = (fold l a s).1 ++ ap l ((fold l a s).2 ++ x) := by
  intro s
  induction s with
  | nil => intro a _ _ hi; exact ⟨hi, fun x => rfl⟩
  | cons c s ih =>
    intro a hd hn hi
    simp at hn
    have h1 := hd a.2 c (by omega)
    have h2 := stp_len h a.2 c
    obtain ⟨i1, i2⟩ := ih (a.1 ++ (stp l a.2 c).1, (stp l a.2 c).2) hd (by simp; omega) h1.1
    refine ⟨i1, fun x => ?_⟩
    refine Eq.trans ?_ (i2 x)
    show a.1 ++ ap l (a.2 ++ c :: (s ++ x)) = (a.1 ++ (stp l a.2 c).1) ++ ap l ((stp l a.2 c).2 ++ (s ++ x))
    rw [h1.2 (s ++ x), List.append_assoc]
theorem does_lt {l : List Ru} (h : Good l) : ∀ (n : Nat) (w : List UInt8) (b : UInt8), w.length < n → Does l w b := by
  intro n
  induction n with
  | zero => intro w b hw; omega
  | succ n ih =>
    intro w b hn
    unfold Does
    cases hw : waits l (w ++ [b]) with
    | true =>
      rw [stp_wait h hw]
      exact ⟨.inr hw, fun x => by simp⟩
    | false =>
      cases hr : whole l (w ++ [b]) with
      | some r =>
        rw [stp_whole h hw hr]
        refine ⟨.inl rfl, fun x => ?_⟩
        obtain ⟨hm, hf⟩ := whole_some hr
        have hb : best l (w ++ b :: x) = some r := by
          refine isBest_unique h (best_is _ _) ⟨fun q hq => ?_, fun q hq hp => ?_⟩
          · obtain rfl := Option.some.inj hq
            refine ⟨hm, ?_⟩
            rw [hf, show w ++ b :: x = (w ++ [b]) ++ x by simp]
            exact List.prefix_append _ _
          · have := (best_stop hw x q hq hp).length_le
            show q.f.length ≤ r.f.length
            rw [hf]
            exact this
        rw [ap_some h hb, hf, show w ++ b :: x = (w ++ [b]) ++ x by simp, List.drop_left]
        rfl
      | none =>
        by_cases hne : w = []
        · subst hne
          rw [stp_none h hw hr]
          refine ⟨.inl rfl, fun x => ?_⟩
          have hb := best_fall hw hr x
          have h0 : best l [] = none := by
            cases e : best l [] with
            | none => rfl
            | some r =>
              have h1 := (best_is l []).1 r e
              have h2 := (h.pos h1.1).1
              have := h1.2.length_le
              rw [List.length_nil] at this
              omega
          exact ap_none h (hb.trans h0)
        · rw [stp_fall h hw hr hne]
          have h1 := fall_len h hne
          have h2 := ih (fall l w).2 b (by omega)
          have hf := first_len h hne
          have h3 := fold_does h (n := n) (first l w).2 ((first l w).1, []) ih (by simp; omega) (.inl rfl)
          refine ⟨h2.1, fun x => ?_⟩
          have e1 := first_ap h hne (b :: x) (best_fall hw hr x)
          have e2 : (first l w).1 ++ ap l ((first l w).2 ++ b :: x) = (fall l w).1 ++ ap l ((fall l w).2 ++ b :: x) := h3.2 (b :: x)
          rw [e1, e2, h2.2 x, List.append_assoc]
/-- a byte more is as the rules say -/
theorem does {l : List Ru} (h : Good l) (w : List UInt8) (b : UInt8) : Does l w b := does_lt h _ w b (Nat.lt_succ_self _)
theorem stp_ap {l : List Ru} (h : Good l) (w : List UInt8) (b : UInt8) (x : List UInt8) : ap l (w ++ b :: x) = (stp l w b).1 ++ ap l ((stp l w b).2 ++ x) := (does h w b).2 x
theorem fall_does {l : List Ru} (h : Good l) {w : List UInt8} (hne : w ≠ []) : ((fall l w).2 = [] ∨ waits l (fall l w).2 = true) ∧ ap l w = (fall l w).1 ++ ap l (fall l w).2 := by
  have h3 := fold_does h (n := (first l w).2.length) (first l w).2 ((first l w).1, []) (fun u c _ => does h u c) (by simp) (.inl rfl)
  have e1 := first_ap h hne [] (by rw [List.append_nil])
  refine ⟨h3.1, ?_⟩
  have e2 := h3.2 []
  simp only [List.append_nil, List.nil_append] at e1 e2
  rw [e1, e2]
  rfl
end Go.Proofs.Ytlmodfeiphffcaa.ru.rw

namespace Go.Proofs.Ytlmodfeiphffcaa.ru.rw
set_option linter.unusedVariables false

/-- a text without the byte at which it is put, if it ends with that -/
def cutc (o : List UInt8) (c : UInt8) : List UInt8 := if o.getLast? = some c then o.dropLast else o
theorem cutc_of {t o : List UInt8} {c : UInt8} {odd : Bool} (h1 : t ++ (if odd = true then [c] else []) = o) (h2 : odd = false → o.getLast? ≠ some c) : t = cutc o c := by
  unfold cutc
  cases odd with
  | false =>
    rw [if_neg (h2 rfl), ← h1]
    simp
  | true =>
    rw [if_pos rfl] at h1
    subst h1
    simp
theorem cutc_snoc (o : List UInt8) (c : UInt8) : cutc (o ++ [c]) c = o := by unfold cutc; simp
theorem cutc_nil (c : UInt8) : cutc [] c = [] := by unfold cutc; simp
theorem cutc_mem (o : List UInt8) (c : UInt8) : cutc o c ∈ [o, o.dropLast] := by unfold cutc; split <;> simp

/-- what is put of a text that waits, and what waits then, by falls -/
def falls (l : List Ru) : Nat → List UInt8 → List UInt8 → List (List UInt8 × List UInt8)
  | 0, _, _ => []
  | n + 1, a, w => if w = [] then [] else (a ++ (fall l w).1, (fall l w).2) :: falls l n (a ++ (fall l w).1) (fall l w).2
theorem falls_len (l : List Ru) : ∀ (n : Nat) (a w : List UInt8), (falls l n a w).length ≤ n := by
  intro n
  induction n with
  | zero => intro a w; exact Nat.le_refl _
  | succ n ih =>
    intro a w
    unfold falls
    split
    · simp
    · have := ih (a ++ (fall l w).1) (fall l w).2
      simp
      omega
theorem falls_lt {l : List Ru} (h : Good l) : ∀ (n : Nat) (a w : List UInt8), ∀ x ∈ falls l n a w, x.2.length < w.length := by
  intro n
  induction n with
  | zero => intro a w x hx; simp [falls] at hx
  | succ n ih =>
    intro a w x hx
    unfold falls at hx
    split at hx
    · simp at hx
    · rename_i hne
      have h1 := fall_len h hne
      rcases List.mem_cons.1 hx with rfl | hx
      · exact h1
      · have := ih _ _ x hx
        omega
theorem falls_one {l : List Ru} (h : Good l) : ∀ (n : Nat) (a w : List UInt8), ∀ x ∈ (a, w) :: falls l n a w, ∀ y ∈ (a, w) :: falls l n a w, x.2 = y.2 → x = y := by
  intro n
  induction n with
  | zero =>
    intro a w x hx y hy _
    simp [falls] at hx hy
    rw [hx, hy]
  | succ n ih =>
    intro a w x hx y hy e
    have hl := falls_lt h (n + 1) a w
    rcases List.mem_cons.1 hx with hx1 | hx
    · rcases List.mem_cons.1 hy with hy1 | hy
      · rw [hx1, hy1]
      · have := hl y hy
        rw [← e, hx1] at this
        simp at this
    · rcases List.mem_cons.1 hy with hy1 | hy
      · have := hl x hx
        rw [e, hy1] at this
        simp at this
      · unfold falls at hx hy
        split at hx
        · simp at hx
        · rename_i hne
          rw [if_neg hne] at hy
          exact ih _ _ x hx y hy e
theorem way {l : List Ru} (h : Good l) (b : UInt8) : ∀ (n : Nat) (a w : List UInt8), w.length ≤ n → ∃ x ∈ (a, w) :: falls l n a w, a ++ (stp l w b).1 = x.1 ∨ (∃ r ∈ l, r.f = x.2 ++ [b] ∧ a ++ (stp l w b).1 = x.1 ++ r.t) ∨ a ++ (stp l w b).1 = x.1 ++ [b] := by
  intro n
  induction n with
  | zero =>
    intro a w hn
    have : w = [] := List.length_eq_zero_iff.1 (by omega)
    subst this
    refine ⟨_, List.mem_cons_self .., ?_⟩
    cases hw : waits l ([] ++ [b]) with
    | true => rw [stp_wait h hw]; exact .inl (by simp)
    | false =>
      cases hr : whole l ([] ++ [b]) with
      | some r =>
        rw [stp_whole h hw hr]
        exact .inr (.inl ⟨r, (whole_some hr).1, (whole_some hr).2, rfl⟩)
      | none => rw [stp_none h hw hr]; exact .inr (.inr rfl)
  | succ n ih =>
    intro a w hn
    cases hw : waits l (w ++ [b]) with
    | true => exact ⟨_, List.mem_cons_self .., .inl (by rw [stp_wait h hw]; simp)⟩
    | false =>
      cases hr : whole l (w ++ [b]) with
      | some r => exact ⟨_, List.mem_cons_self .., .inr (.inl ⟨r, (whole_some hr).1, (whole_some hr).2, by rw [stp_whole h hw hr]⟩)⟩
      | none =>
        by_cases hne : w = []
        · subst hne
          exact ⟨_, List.mem_cons_self .., .inr (.inr (by rw [stp_none h hw hr]))⟩
        · have h1 := fall_len h hne
          obtain ⟨x, hx, h2⟩ := ih (a ++ (fall l w).1) (fall l w).2 (by omega)
          rw [stp_fall h hw hr hne]
          refine ⟨x, ?_, ?_⟩
          · unfold falls
            rw [if_neg hne]
            exact List.mem_cons_of_mem _ hx
          · simp only [List.append_assoc] at h2 ⊢
            exact h2
theorem way_end {l : List Ru} (h : Good l) : ∀ (n : Nat) (a w : List UInt8), w.length ≤ n → ∃ x ∈ (a, w) :: falls l n a w, a ++ ap l w = x.1 := by
  intro n
  induction n with
  | zero =>
    intro a w hn
    have : w = [] := List.length_eq_zero_iff.1 (by omega)
    subst this
    exact ⟨_, List.mem_cons_self .., by rw [ap_nil]; simp⟩
  | succ n ih =>
    intro a w hn
    by_cases hne : w = []
    · subst hne
      exact ⟨_, List.mem_cons_self .., by rw [ap_nil]; simp⟩
    · have h1 := fall_len h hne
      obtain ⟨x, hx, h2⟩ := ih (a ++ (fall l w).1) (fall l w).2 (by omega)
      refine ⟨x, ?_, ?_⟩
      · unfold falls
        rw [if_neg hne]
        exact List.mem_cons_of_mem _ hx
      · rw [(fall_does h hne).2, ← List.append_assoc]
        exact h2
/-- the texts of a state -/
def texts (l : List Ru) (w : List UInt8) : List (List UInt8) := [] :: ((falls l w.length [] w).flatMap (fun x => [x.1, x.1.dropLast]) ++ l.map (fun r => match (([], w) :: falls l w.length [] w).find? (fun x => x.2 == r.f.dropLast) with
  | some x => cutc (x.1 ++ r.t) (r.f.getLast?.getD 0)
  | none => []))
theorem texts_len (l : List Ru) (w : List UInt8) : (texts l w).length ≤ 1 + 2 * w.length + l.length := by
  unfold texts
  have h1 := falls_len l w.length [] w
  have h2 : ∀ k : List (List UInt8 × List UInt8), (k.flatMap (fun x => [x.1, x.1.dropLast])).length = 2 * k.length := by
    intro k
    induction k with
    | nil => rfl
    | cons x k ih => rw [List.flatMap_cons, List.length_append, ih]; simp; omega
  rw [List.length_cons, List.length_append, h2, List.length_map]
  omega
theorem texts_of {l : List Ru} {w : List UInt8} {x : List UInt8 × List UInt8} (hx : x ∈ ([], w) :: falls l w.length [] w) {t : List UInt8} (ht : t ∈ [x.1, x.1.dropLast]) : t ∈ texts l w := by
  unfold texts
  rcases List.mem_cons.1 hx with rfl | hx
  · simp at ht
    simp [ht]
  · exact List.mem_cons_of_mem _ (List.mem_append_left _ (List.mem_flatMap.2 ⟨x, hx, ht⟩))
theorem texts_step {l : List Ru} (h : Good l) (w : List UInt8) (b : UInt8) : cutc (stp l w b).1 b ∈ texts l w := by
  obtain ⟨x, hx, h2⟩ := way h b w.length [] w (Nat.le_refl _)
  simp only [List.nil_append] at h2
  rcases h2 with e | ⟨r, hr, hf, e⟩ | e
  · rw [e]
    exact texts_of hx (cutc_mem _ _)
  · rw [e]
    have hd : r.f.dropLast = x.2 := by rw [hf]; simp
    have hg : r.f.getLast?.getD 0 = b := by rw [hf]; simp
    unfold texts
    refine List.mem_cons_of_mem _ (List.mem_append_right _ (List.mem_map.2 ⟨r, hr, ?_⟩))
    cases ef : (([], w) :: falls l w.length [] w).find? (fun x => x.2 == r.f.dropLast) with
    | none =>
      have := List.find?_eq_none.1 ef x hx
      simp [hd] at this
    | some y =>
      have h3 := List.find?_some ef
      have h4 := List.mem_of_find?_eq_some ef
      have h5 : y.2 = x.2 := by simpa [hd] using h3
      rw [falls_one h _ _ _ y h4 x hx h5, hg]
  · rw [e, cutc_snoc]
    exact texts_of hx (by simp)
theorem texts_end {l : List Ru} (h : Good l) (w : List UInt8) : ap l w ∈ texts l w := by
  obtain ⟨x, hx, h2⟩ := way_end h w.length [] w (Nat.le_refl _)
  simp only [List.nil_append] at h2
  rw [h2]
  exact texts_of hx (by simp)
/-- the states: what waits -/
def pres (f : List UInt8) (n : Nat) : List (List UInt8) := (List.range n).map fun i => f.take (i + 1)
def states (l : List Ru) : List (List UInt8) := [] :: l.flatMap fun r => pres r.f (r.f.length - 1)
theorem states_mem {l : List Ru} {w : List UInt8} (hw : w = [] ∨ waits l w = true) : w ∈ states l := by
  unfold states
  rcases hw with e | hw
  · rw [e]; exact List.mem_cons_self ..
  · by_cases hne : w = []
    · rw [hne]; exact List.mem_cons_self ..
    · obtain ⟨r, hr, h1, h2⟩ := waits_iff.1 hw
      have hp : 0 < w.length := List.length_pos_iff.2 hne
      refine List.mem_cons_of_mem _ (List.mem_flatMap.2 ⟨r, hr, List.mem_map.2 ⟨w.length - 1, List.mem_range.2 (by omega), ?_⟩⟩)
      rw [show w.length - 1 + 1 = w.length by omega]
      exact (List.prefix_iff_eq_take.1 h2).symm
def total (l : List Ru) : Nat := (l.map fun r => r.f.length).sum
theorem states_len {l : List Ru} (h : ∀ r ∈ l, 0 < r.f.length) : (states l).length + l.length = 1 + total l := by
  unfold states total
  rw [List.length_cons]
  have : (l.flatMap fun r => pres r.f (r.f.length - 1)).length + l.length = (l.map fun r => r.f.length).sum := by
    induction l with
    | nil => rfl
    | cons r l ih =>
      have h1 := h r (List.mem_cons_self ..)
      have h2 := ih fun x hx => h x (List.mem_cons_of_mem _ hx)
      rw [List.flatMap_cons, List.length_append, List.map_cons, List.sum_cons, List.length_cons]
      have : (pres r.f (r.f.length - 1)).length = r.f.length - 1 := by simp [pres]
      omega
  omega
/-- all texts -/
def allTexts (l : List Ru) : List (List UInt8) := (states l).flatMap (texts l)
theorem pres_texts (l : List Ru) (f : List UInt8) : ∀ n, ((pres f n).flatMap (texts l)).length ≤ n * (n + 2 + l.length) := by
  intro n
  induction n with
  | zero => simp [pres]
  | succ n ih =>
    have e : pres f (n + 1) = pres f n ++ [f.take (n + 1)] := by simp [pres, List.range_succ]
    rw [e, List.flatMap_append, List.length_append]
    have h1 : ([f.take (n + 1)].flatMap (texts l)).length ≤ 1 + 2 * (n + 1) + l.length := by
      have := texts_len l (f.take (n + 1))
      have h2 : (f.take (n + 1)).length ≤ n + 1 := by rw [List.length_take]; omega
      simp only [List.flatMap_cons, List.flatMap_nil, List.append_nil]
      omega
    have h3 : (n + 1) * (n + 1 + 2 + l.length) = n * (n + 2 + l.length) + n + (n + 1 + 2 + l.length) := by
      rw [Nat.succ_mul, show n + 1 + 2 + l.length = (n + 2 + l.length) + 1 by omega, Nat.mul_succ]
    omega
theorem few_texts {l : List Ru} (h : Good l) (ht : total l ≤ 100) : (allTexts l).length ≤ 4096 ∧ (states l).length ≤ 101 := by
  have hs := states_len fun r hr => (h.pos hr).1
  have hk := h.1
  have h1 : (allTexts l).length ≤ (states l).length * (17 + l.length) := by
    unfold allTexts states
    rw [List.flatMap_cons, List.length_append, List.length_cons, Nat.succ_mul]
    have h0 : (texts l []).length ≤ 17 + l.length := by have := texts_len l []; simp at this; omega
    have : ∀ k : List Ru, (∀ r ∈ k, r.f.length ≤ 16) → ((k.flatMap fun r => pres r.f (r.f.length - 1)).flatMap (texts l)).length ≤ (k.flatMap fun r => pres r.f (r.f.length - 1)).length * (17 + l.length) := by
      intro k
      induction k with
      | nil => intro _; simp
      | cons r k ih =>
        intro hk
        have a1 := ih fun x hx => hk x (List.mem_cons_of_mem _ hx)
        have a2 := hk r (List.mem_cons_self ..)
        have a3 := pres_texts l r.f (r.f.length - 1)
        have a4 : (r.f.length - 1) * (r.f.length - 1 + 2 + l.length) ≤ (r.f.length - 1) * (17 + l.length) := Nat.mul_le_mul_left _ (by omega)
        have a5 : (pres r.f (r.f.length - 1)).length = r.f.length - 1 := by simp [pres]
        rw [List.flatMap_cons, List.flatMap_append, List.length_append, List.length_append, Nat.add_mul, a5]
        omega
    have := this l fun r hr => (h.pos hr).2.1
    omega
  have h2 : (states l).length ≤ 101 - l.length := by omega
  have h3 : (states l).length * (17 + l.length) ≤ (101 - l.length) * (17 + l.length) := Nat.mul_le_mul_right _ h2
  have h4 : ∀ k : Fin 65, (101 - k.val) * (17 + k.val) ≤ 4096 := by decide
  have h5 := h4 ⟨l.length, by omega⟩
  simp only at h5
  exact ⟨by omega, by omega⟩
/-- no text is long -/
theorem out_len {l : List Ru} (h : Good l) (w : List UInt8) (b : UInt8) : (stp l w b).1.length ≤ 32 * (w.length + 1) := by
  have h1 := stp_ap h w b []
  have h2 := ap_grow h (w ++ [b])
  have h3 := growN_le l h.2.1 1 (by omega)
  have h4 : growN 1 l * (w ++ [b]).length ≤ 32 * (w ++ [b]).length := Nat.mul_le_mul_right _ h3
  rw [h1, List.length_append, List.length_append] at h2
  rw [List.length_append] at h4
  simp at h2 h4
  omega
theorem end_len {l : List Ru} (h : Good l) (w : List UInt8) : (ap l w).length ≤ 32 * w.length := by
  have h2 := ap_grow h w
  have h3 := growN_le l h.2.1 1 (by omega)
  have h4 : growN 1 l * w.length ≤ 32 * w.length := Nat.mul_le_mul_right _ h3
  omega
theorem wait_len {l : List Ru} (h : Good l) {w : List UInt8} (hw : w = [] ∨ waits l w = true) : w.length ≤ 15 := by
  rcases hw with e | hw
  · rw [e]; simp
  · obtain ⟨r, hr, h1, h2⟩ := waits_iff.1 hw
    have := h.pos hr
    omega
end Go.Proofs.Ytlmodfeiphffcaa.ru.rw
