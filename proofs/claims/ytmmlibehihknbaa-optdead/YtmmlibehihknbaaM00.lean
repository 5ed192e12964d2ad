/-
  Texts put together: Plain mathematics, no program: merges, which may be, the texts of ids, lists of ids merged. Over this program: rows of numbers, of texts, lists of merges in memory; isId, the document's Ints, Like, short, Rank. Contracts over this program: the document's Rank. Rows of any elements that a call owns: one more element (append), where the new row lies.
-/
import Derived.WalkKit
import Derived.Test.YtmmlibehihknbaaRows
import Derived.ChangeAt
import Derived.Below
import Derived.Lib.OthersKept
import Derived.Laws.Rows
import Derived.WalkLawsBesides
import Derived.Deep.QuietTactic
import Derived.Deep.RegionHeld3
import Derived.WalkSmall
import Derived.BigQuiet
import Derived.SizedLaws
import Derived.OwnWalk
import Derived.Maps.AppendAt
import Derived.Laws.OwnMore
import Derived.Shelf.Abstract
import Derived.RangeFuncBox
import Derived.RangeFuncNested
import Derived.RangeFuncLeaves
import Derived.Deep.RegionLaw
namespace Go.Proofs.Ytmmlibehihknbaa.mg
set_option linter.unusedVariables false

abbrev Mg := Int × Int
def oneB (b : Nat) : ByteArray := ⟨#[UInt8.ofNat b]⟩
theorem oneB_size (b : Nat) : (oneB b).size = 1 := rfl
def bytesT (n : Nat) : List ByteArray := (List.range n).map oneB
theorem bytesT_len (n : Nat) : (bytesT n).length = n := by simp [bytesT]
theorem bytesT_succ (n : Nat) : bytesT (n + 1) = bytesT n ++ [oneB n] := by simp [bytesT, List.range_succ]
theorem bytesT_at (n i : Nat) (h : i < n) : (bytesT n)[i]? = some (oneB i) := by simp [bytesT, h]

theorem ba_ext {a b : ByteArray} (h : a.data.toList = b.data.toList) : a = b := by
  cases a with | mk a => cases b with | mk b => simp at h; rw [h]
theorem app_data (a b : ByteArray) : (a ++ b).data.toList = a.data.toList ++ b.data.toList := by simp
theorem app_size (a b : ByteArray) : (a ++ b).size = a.size + b.size := by simp

def atI (ts : List ByteArray) (x : Int) : ByteArray := ts.getD x.toNat ⟨#[]⟩
def txt (ts : List ByteArray) (m : Mg) : ByteArray := atI ts m.1 ++ atI ts m.2
def InR (x : Int) (n : Nat) : Prop := 0 ≤ x ∧ x < (n : Int)
instance (x : Int) (n : Nat) : Decidable (InR x n) := by unfold InR; infer_instance
def Ok (n : Nat) (ts : List ByteArray) (m : Mg) : Prop := InR m.1 ts.length ∧ InR m.2 ts.length ∧ (txt ts m).size ≤ 64 ∧ txt ts m ∉ ts.drop n
instance decB (t : ByteArray) (l : List ByteArray) : Decidable (t ∈ l) := decidable_of_iff (t.data.toList ∈ l.map fun x => x.data.toList) ⟨fun h => by
  obtain ⟨x, hx, e⟩ := List.mem_map.1 h
  rw [← ba_ext e]
  exact hx, fun h => List.mem_map.2 ⟨t, h, rfl⟩⟩
instance (n : Nat) (ts : List ByteArray) (m : Mg) : Decidable (Ok n ts m) := by unfold Ok; infer_instance

def run (n : Nat) (ts : List ByteArray) : List Mg → Option (List ByteArray)
  | [] => some ts
  | m :: l => if Ok n ts m then run n (ts ++ [txt ts m]) l else none
def errOf (l : List Mg) : Nat := if 1024 < l.length then 2 else if (run 256 (bytesT 256) l).isSome then 0 else 130
def textsOf (l : List Mg) : List ByteArray := if 1024 < l.length then [] else (run 256 (bytesT 256) l).getD []

theorem errOf_cases (l : List Mg) : errOf l = 2 ∨ errOf l = 130 ∨ errOf l = 0 := by
  unfold errOf
  split
  · exact .inl rfl
  · split
    · exact .inr (.inr rfl)
    · exact .inr (.inl rfl)
theorem textsOf_bad {l : List Mg} (h : errOf l ≠ 0) : textsOf l = [] := by
  unfold errOf at h
  unfold textsOf
  split
  · rfl
  · rename_i h1
    rw [if_neg h1] at h
    cases e : run 256 (bytesT 256) l with
    | none => rfl
    | some r => rw [e] at h; simp at h
theorem ok_run {l : List Mg} (h : errOf l = 0) : l.length ≤ 1024 ∧ run 256 (bytesT 256) l = some (textsOf l) := by
  unfold errOf at h
  split at h
  · omega
  · rename_i h1
    refine ⟨by omega, ?_⟩
    split at h
    · rename_i h2
      unfold textsOf
      rw [if_neg h1]
      cases e : run 256 (bytesT 256) l with
      | none => rw [e] at h2; cases h2
      | some r => rfl
    · omega

theorem atI_left (ts : List ByteArray) (r : List ByteArray) (x : Int) (h : x.toNat < ts.length) : atI (ts ++ r) x = atI ts x := by
  unfold atI
  rw [List.getD_eq_getElem?_getD, List.getD_eq_getElem?_getD, List.getElem?_append_left h]

/-- what texts of merges that may be are -/
structure Fine (l : List Mg) (ts : List ByteArray) : Prop where
  len : ts.length = 256 + l.length
  low : ∀ i, i < 256 → ts[i]? = some (oneB i)
  rng : ∀ k m, l[k]? = some m → InR m.1 (256 + k) ∧ InR m.2 (256 + k)
  txt : ∀ k m, l[k]? = some m → ts[256 + k]? = some (txt ts m)
  size : ∀ t ∈ ts, 1 ≤ t.size ∧ t.size ≤ 64
  nodup : (ts.drop 256).Nodup
theorem fine_nil : Fine [] (bytesT 256) := by
  refine ⟨bytesT_len 256, fun i h => bytesT_at 256 i h, fun k m h => by simp at h, fun k m h => by simp at h, fun t ht => ?_, ?_⟩
  · obtain ⟨i, _, rfl⟩ := List.mem_map.1 ht
    rw [oneB_size]
    omega
  · rw [List.drop_eq_nil_of_le (by rw [bytesT_len]; exact Nat.le_refl _)]
    exact List.nodup_nil
theorem atI_mem {ts : List ByteArray} {x : Int} (h : InR x ts.length) : atI ts x ∈ ts := by
  unfold atI
  have : x.toNat < ts.length := by unfold InR at h; omega
  rw [List.getD_eq_getElem?_getD, List.getElem?_eq_getElem this]
  exact List.getElem_mem this
theorem Fine.push {l : List Mg} {ts : List ByteArray} (h : Fine l ts) {m : Mg} (k : Ok 256 ts m) : Fine (l ++ [m]) (ts ++ [mg.txt ts m]) := by
  obtain ⟨k1, k2, k3, k4⟩ := k
  have hl := h.len
  refine ⟨by simp [hl]; omega, fun i hi => ?_, fun j x hj => ?_, fun j x hj => ?_, fun t ht => ?_, ?_⟩
  · rw [List.getElem?_append_left (by omega)]
    exact h.low i hi
  · by_cases e : j < l.length
    · rw [List.getElem?_append_left e] at hj
      exact h.rng j x hj
    · have hj2 := (List.getElem?_eq_some_iff.1 hj).1
      have e2 : j = l.length := by simp at hj2; omega
      subst e2
      simp at hj
      subst hj
      rw [← hl]
      exact ⟨k1, k2⟩
  · by_cases e : j < l.length
    · rw [List.getElem?_append_left e] at hj
      rw [List.getElem?_append_left (by omega), h.txt j x hj]
      have hr := h.rng j x hj
      unfold InR at hr
      unfold mg.txt
      rw [atI_left _ _ _ (by omega), atI_left _ _ _ (by omega)]
    · have hj2 := (List.getElem?_eq_some_iff.1 hj).1
      have e2 : j = l.length := by simp at hj2; omega
      subst e2
      simp at hj
      subst hj
      rw [List.getElem?_append_right (by omega), hl]
      simp only [Nat.sub_self, List.getElem?_cons_zero]
      unfold InR at k1 k2
      unfold mg.txt
      rw [atI_left _ _ _ (by omega), atI_left _ _ _ (by omega)]
  · rcases List.mem_append.1 ht with h1 | h1
    · exact h.size t h1
    · rw [List.mem_singleton.1 h1]
      refine ⟨?_, k3⟩
      unfold mg.txt
      rw [app_size]
      have := (h.size _ (atI_mem k1)).1
      omega
  · rw [List.drop_append_of_le_length (by omega), List.nodup_append]
    refine ⟨h.nodup, by simp, fun a ha b hb e => ?_⟩
    rw [List.mem_singleton.1 hb] at e
    exact k4 (e ▸ ha)
theorem fine_run : ∀ (l l0 : List Mg) (ts r : List ByteArray), Fine l0 ts → run 256 ts l = some r → Fine (l0 ++ l) r := by
  intro l
  induction l with
  | nil => intro l0 ts r h e; rw [run] at e; cases e; rw [List.append_nil]; exact h
  | cons m l ih =>
    intro l0 ts r h e
    rw [run] at e
    split at e
    · rename_i k
      have := ih (l0 ++ [m]) _ r (h.push k) e
      rw [List.append_assoc] at this
      exact this
    · cases e
theorem fine {l : List Mg} (h : errOf l = 0) : Fine l (textsOf l) := fine_run l [] _ _ fine_nil (ok_run h).2
theorem Fine.once {l : List Mg} {ts : List ByteArray} (h : Fine l ts) {i j : Nat} {m : Mg} (hi : l[i]? = some m) (hj : l[j]? = some m) : i = j := by
  have e1 := h.txt i m hi
  have e2 := h.txt j m hj
  have d1 : (ts.drop 256)[i]? = some (mg.txt ts m) := by rw [List.getElem?_drop]; exact e1
  have d2 : (ts.drop 256)[j]? = some (mg.txt ts m) := by rw [List.getElem?_drop]; exact e2
  exact (List.getElem?_inj (List.getElem?_eq_some_iff.1 d1).1 h.nodup).1 (d1.trans d2.symm)

/-! merging -/
def pr (l : List Mg) (p : Mg) : Nat := if p ∈ l then l.idxOf p else 1024
def rk (l : List Mg) (ids : List Int) (i : Nat) : Nat := if i + 1 < ids.length then pr l (ids.getD i 0, ids.getD (i + 1) 0) else 1024
def lst (f : Nat → Nat) : Nat → Nat × Int
  | 0 => (1024, -1)
  | i + 1 => if f i < (lst f i).1 then (f i, (i : Int)) else lst f i
theorem lst_spec (f : Nat → Nat) (n : Nat) : ((lst f n).2 = -1 ∧ (lst f n).1 = 1024 ∧ ∀ i, i < n → 1024 ≤ f i) ∨ (∃ k : Nat, (lst f n).2 = (k : Int) ∧ k < n ∧ f k = (lst f n).1 ∧ (lst f n).1 < 1024 ∧ (∀ i, i < n → (lst f n).1 ≤ f i) ∧ ∀ i, i < k → (lst f n).1 < f i) := by
  induction n with
  | zero => exact .inl ⟨rfl, rfl, fun i hi => by omega⟩
  | succ n ih =>
    rw [lst]
    by_cases h : f n < (lst f n).1
    · rw [if_pos h]
      refine .inr ⟨n, rfl, by omega, rfl, ?_, fun i hi => ?_, fun i hi => ?_⟩
      · rcases ih with ⟨_, a, _⟩ | ⟨_, _, _, _, a, _⟩ <;> simp <;> omega
      · by_cases e : i = n
        · subst e; exact Nat.le_refl _
        · rcases ih with ⟨_, a, b⟩ | ⟨_, _, _, _, a, b, _⟩
          · have := b i (by omega); simp; omega
          · have := b i (by omega); simp; omega
      · rcases ih with ⟨_, a, b⟩ | ⟨_, _, _, _, a, b, _⟩
        · have := b i (by omega); simp; omega
        · have := b i (by omega); simp; omega
    · rw [if_neg h]
      rcases ih with ⟨a, b, c⟩ | ⟨k, a, b, c, d, e, g⟩
      · refine .inl ⟨a, b, fun i hi => ?_⟩
        by_cases e : i = n
        · subst e; omega
        · exact c i (by omega)
      · refine .inr ⟨k, a, by omega, c, d, fun i hi => ?_, g⟩
        by_cases e2 : i = n
        · subst e2; omega
        · exact e i (by omega)
theorem lst_at (f : Nat → Nat) (n k : Nat) (h1 : k < n) (h2 : f k < 1024) (h3 : ∀ i, i < n → f k ≤ f i) (h4 : ∀ i, i < k → f k < f i) : lst f n = (f k, (k : Int)) := by
  rcases lst_spec f n with ⟨a, b, c⟩ | ⟨j, a, b, c, d, e, g⟩
  · have := c k h1; omega
  · have e1 := h3 j b
    have e2 := e k h1
    have e3 : j = k := by
      rcases Nat.lt_trichotomy j k with h | h | h
      · have := h4 j h; omega
      · exact h
      · have := g k h; omega
    subst e3
    exact Prod.ext c.symm a
theorem lst_none (f : Nat → Nat) (n : Nat) (h : ∀ i, i < n → 1024 ≤ f i) : lst f n = (1024, -1) := by
  rcases lst_spec f n with ⟨a, b, c⟩ | ⟨j, a, b, c, d, e, g⟩
  · exact Prod.ext b a
  · have := h j b; omega
theorem lst_congr (f g : Nat → Nat) (n : Nat) (h : ∀ i, i < n → f i = g i) : lst f n = lst g n := by
  induction n with
  | zero => rfl
  | succ n ih => rw [lst, lst, ih (fun i hi => h i (by omega)), h n (by omega)]

def joinAt (ids : List Int) (k r : Nat) : List Int := ids.take k ++ (256 + (r : Int)) :: ids.drop (k + 2)
theorem joinAt_len (ids : List Int) (k r : Nat) (h : k + 1 < ids.length) : (joinAt ids k r).length + 1 = ids.length := by
  simp [joinAt]; omega
theorem joinAt_get (ids : List Int) (k r i : Nat) (h : k + 1 < ids.length) : (joinAt ids k r).getD i 0 = if i < k then ids.getD i 0 else if i = k then 256 + (r : Int) else ids.getD (i + 1) 0 := by
  unfold joinAt
  rw [List.getD_eq_getElem?_getD]
  by_cases h1 : i < k
  · rw [if_pos h1, List.getElem?_append_left (by simp; omega), List.getElem?_take_of_lt h1, List.getD_eq_getElem?_getD]
  · rw [if_neg h1, List.getElem?_append_right (by simp; omega)]
    have e : min k ids.length = k := by omega
    rw [List.length_take, e]
    by_cases h2 : i = k
    · subst h2
      rw [if_pos rfl, Nat.sub_self]
      rfl
    · rw [if_neg h2, show i - k = (i - k - 1) + 1 by omega, List.getElem?_cons_succ, List.getElem?_drop, List.getD_eq_getElem?_getD]
      congr 2
      omega
def nx (l : List Mg) (ids : List Int) : Option (Nat × Nat) := if (lst (rk l ids) ids.length).2 < 0 then none else some ((lst (rk l ids) ids.length).2.toNat, (lst (rk l ids) ids.length).1)
theorem rk_lt {l : List Mg} {ids : List Int} {i : Nat} (h : rk l ids i < 1024) : i + 1 < ids.length ∧ (ids.getD i 0, ids.getD (i + 1) 0) ∈ l ∧ rk l ids i = l.idxOf (ids.getD i 0, ids.getD (i + 1) 0) := by
  unfold rk at h ⊢
  split at h
  · rename_i h1
    unfold pr at h ⊢
    split at h
    · rename_i h2
      refine ⟨h1, h2, ?_⟩
      rw [if_pos h1, if_pos h2]
    · omega
  · omega
theorem nx_some {l : List Mg} {ids : List Int} {k r : Nat} (h : nx l ids = some (k, r)) : k + 1 < ids.length ∧ l[r]? = some (ids.getD k 0, ids.getD (k + 1) 0) ∧ r < l.length ∧ rk l ids k = r ∧ r < 1024 ∧ (∀ i, i < ids.length → r ≤ rk l ids i) ∧ (∀ i, i < k → r < rk l ids i) ∧ lst (rk l ids) ids.length = (r, (k : Int)) := by
  unfold nx at h
  rcases lst_spec (rk l ids) ids.length with ⟨a, b, c⟩ | ⟨j, a, b, c, d, e, g⟩
  · rw [a] at h; simp at h
  · rw [a, if_neg (by omega)] at h
    simp at h
    obtain ⟨rfl, h2⟩ := h
    rw [h2] at c d e g
    obtain ⟨q1, q2, q3⟩ := rk_lt (by rw [c]; exact d)
    rw [c] at q3
    refine ⟨q1, ?_, ?_, c, d, e, g, Prod.ext h2 a⟩
    · rw [q3, List.getElem?_eq_getElem (List.idxOf_lt_length_of_mem q2), List.getElem_idxOf]
    · rw [q3]; exact List.idxOf_lt_length_of_mem q2
theorem nx_none {l : List Mg} {ids : List Int} (h : nx l ids = none) : (∀ i, i < ids.length → 1024 ≤ rk l ids i) ∧ lst (rk l ids) ids.length = (1024, -1) := by
  unfold nx at h
  rcases lst_spec (rk l ids) ids.length with ⟨a, b, c⟩ | ⟨j, a, b, c, d, e, g⟩
  · exact ⟨c, Prod.ext b a⟩
  · rw [a, if_neg (by omega)] at h; cases h
def mgN (l : List Mg) : Nat → List Int → List Int
  | 0, ids => ids
  | n + 1, ids => match nx l ids with
    | none => ids
    | some (k, r) => mgN l n (joinAt ids k r)
def app (l : List Mg) (ids : List Int) : List Int := mgN l ids.length ids
theorem mgN_enough (l : List Mg) : ∀ (n m : Nat) (ids : List Int), ids.length ≤ n → ids.length ≤ m → mgN l n ids = mgN l m ids := by
  intro n
  induction n with
  | zero =>
    intro m ids h1 h2
    have : ids = [] := List.length_eq_zero_iff.1 (by omega)
    subst this
    cases m with
    | zero => rfl
    | succ m => rfl
  | succ n ih =>
    intro m ids h1 h2
    cases m with
    | zero =>
      have : ids = [] := List.length_eq_zero_iff.1 (by omega)
      subst this
      rfl
    | succ m =>
      rw [mgN, mgN]
      cases e : nx l ids with
      | none => rfl
      | some p =>
        obtain ⟨k, r⟩ := p
        have hl := joinAt_len ids k r (nx_some e).1
        exact ih m _ (by omega) (by omega)
theorem app_none {l : List Mg} {ids : List Int} (h : nx l ids = none) : app l ids = ids := by
  unfold app
  cases e : ids.length with
  | zero => rfl
  | succ n => rw [mgN, h]
theorem app_some {l : List Mg} {ids : List Int} {k r : Nat} (h : nx l ids = some (k, r)) : app l ids = app l (joinAt ids k r) := by
  have hl := joinAt_len ids k r (nx_some h).1
  unfold app
  rw [show ids.length = (joinAt ids k r).length + 1 by omega, mgN, h]
theorem app_ind (l : List Mg) (P : List Int → List Int → Prop) (h0 : ∀ ids, nx l ids = none → P ids ids) (h1 : ∀ ids k r out, nx l ids = some (k, r) → P (joinAt ids k r) out → P ids out) : ∀ ids, P ids (app l ids) := by
  intro ids
  generalize hn : ids.length = n
  induction n generalizing ids with
  | zero =>
    have e : nx l ids = none := by
      cases e : nx l ids with
      | none => rfl
      | some p => have := (nx_some e).1; omega
    rw [app_none e]
    exact h0 ids e
  | succ n ih =>
    cases e : nx l ids with
    | none => rw [app_none e]; exact h0 ids e
    | some p =>
      obtain ⟨k, r⟩ := p
      have hl := joinAt_len ids k r (nx_some e).1
      rw [app_some e]
      exact h1 ids k r _ e (ih _ (by omega))
theorem app_done (l : List Mg) (ids : List Int) : nx l (app l ids) = none := app_ind l (fun _ out => nx l out = none) (fun _ h => h) (fun _ _ _ _ _ h => h) ids
theorem app_len (l : List Mg) (ids : List Int) : (app l ids).length ≤ ids.length := app_ind l (fun ids out => out.length ≤ ids.length) (fun _ _ => Nat.le_refl _) (fun ids k r out h h2 => by have := joinAt_len ids k r (nx_some h).1; omega) ids
def AllIn (n : Nat) (ids : List Int) : Prop := ∀ x ∈ ids, InR x n
theorem joinAt_in {n : Nat} {ids : List Int} {k r : Nat} (h : AllIn n ids) (hr : 256 + r < n) : AllIn n (joinAt ids k r) := by
  intro x hx
  unfold joinAt at hx
  rcases List.mem_append.1 hx with h1 | h1
  · exact h x (List.mem_of_mem_take h1)
  · rcases List.mem_cons.1 h1 with h1 | h1
    · rw [h1]; unfold InR; omega
    · exact h x (List.mem_of_mem_drop h1)
theorem app_in (l : List Mg) (ids : List Int) (h : AllIn (256 + l.length) ids) : AllIn (256 + l.length) (app l ids) :=
  app_ind l (fun ids out => AllIn (256 + l.length) ids → AllIn (256 + l.length) out) (fun _ _ h => h) (fun ids k r out h h2 h3 => h2 (joinAt_in h3 (by have := (nx_some h).2.2.1; omega))) ids h
def cat (ts : List ByteArray) (ids : List Int) : List UInt8 := ids.flatMap fun i => (atI ts i).data.toList
theorem split_two (ids : List Int) (k : Nat) (h : k + 1 < ids.length) : ids = ids.take k ++ ids.getD k 0 :: ids.getD (k + 1) 0 :: ids.drop (k + 2) := by
  have e1 : ids.drop k = ids.getD k 0 :: ids.drop (k + 1) := by
    rw [List.drop_eq_getElem_cons (by omega), List.getD_eq_getElem?_getD, List.getElem?_eq_getElem (by omega)]; rfl
  have e2 : ids.drop (k + 1) = ids.getD (k + 1) 0 :: ids.drop (k + 2) := by
    rw [List.drop_eq_getElem_cons (by omega), List.getD_eq_getElem?_getD, List.getElem?_eq_getElem (by omega)]; rfl
  rw [← e2, ← e1, List.take_append_drop]
theorem cat_join {l : List Mg} {ts : List ByteArray} (F : Fine l ts) {ids : List Int} {k r : Nat} (h : nx l ids = some (k, r)) : cat ts (joinAt ids k r) = cat ts ids := by
  obtain ⟨h1, h2, h3, _⟩ := nx_some h
  have ht := F.txt r _ h2
  have e : atI ts (256 + (r : Int)) = txt ts (ids.getD k 0, ids.getD (k + 1) 0) := by
    unfold atI
    rw [show (256 + (r : Int)).toNat = 256 + r by omega, List.getD_eq_getElem?_getD, ht]
    rfl
  have hs := split_two ids k h1
  conv => rhs; rw [hs]
  unfold cat joinAt
  rw [List.flatMap_append, List.flatMap_append, List.flatMap_cons, List.flatMap_cons, List.flatMap_cons, e, txt, app_data, List.append_assoc]
theorem cat_app {l : List Mg} {ts : List ByteArray} (F : Fine l ts) (ids : List Int) : cat ts (app l ids) = cat ts ids :=
  app_ind l (fun ids out => cat ts out = cat ts ids) (fun _ _ => rfl) (fun ids k r out h h2 => by rw [h2, cat_join F h]) ids
end Go.Proofs.Ytmmlibehihknbaa.mg

namespace Go.Proofs.Ytmmlibehihknbaa.mg
open Go.ChangeShapes Go.WideShapes Go.ChangeAt Go.RowKit
set_option linter.unusedVariables false
set_option maxRecDepth 100000

theorem below_alloc (w : World) (o : Obj) : Below w.heap.size w (w.alloc o) := (Below.refl _ _).alloc (Nat.le_refl _) o
theorem chain {w w1 w2 : World} (h1 : Below w.heap.size w w1) (h2 : Below w1.heap.size w1 w2) : Below w.heap.size w w2 := h1.trans (h2.mono h1.size)
theorem below_drewN {B : Nat} {a w : World} (h : Below B a w) (n : Nat) : Below B a (w.drewN n) := ⟨h.os, h.tape, h.output, h.size, h.block⟩

abbrev In (w : World) (b : Nat) : Prop := b < w.heap.size
/-- a row of one cell each, in blocks of which P is said -/
structure Row {α : Type} (P : Nat → Prop) (w : World) (g : α → Value) (o : Option Addr) (cap : Nat) (l : List α) : Prop where
  fit : l.length ≤ cap
  top : cap ≤ 9223372036854775807
  lie : ∀ i (h : i < l.length), ∃ b off, o = some ⟨b, off, none⟩ ∧ P b ∧ w.cell? ⟨b, off + i, none⟩ = some (g l[i])
theorem Row.carry {α : Type} {P Q : Nat → Prop} {w w' : World} {g : α → Value} {o : Option Addr} {cap : Nat} {l : List α} (h : Row P w g o cap l) (hk : ∀ b, P b → w'.heap[b]? = w.heap[b]?) (hq : ∀ b, P b → Q b) : Row Q w' g o cap l :=
  ⟨h.fit, h.top, fun i hi => by
    obtain ⟨b, off, e, hp, hc⟩ := h.lie i hi
    exact ⟨b, off, e, hq b hp, by simp only [World.cell?, hk b hp] at hc ⊢; exact hc⟩⟩
theorem Row.later {α : Type} {w w' : World} {g : α → Value} {o : Option Addr} {cap : Nat} {l : List α} (h : Row (In w) w g o cap l) (b : Below w.heap.size w w') : Row (In w') w' g o cap l :=
  h.carry (fun g hg => b.block g hg) (fun g hg => Nat.lt_of_lt_of_le hg b.size)
abbrev iv (x : Int) : Value := .int .i64 x
def RowV {α : Type} (g : α → Value) (w : World) (v : Value) (l : List α) : Prop := ∃ o cap, v = .slice o l.length cap ∧ Row (In w) w g o cap l
abbrev IntsV := RowV iv
abbrev StrsV := RowV Value.string
theorem RowV.later {α : Type} {g : α → Value} {w w' : World} {v : Value} {l : List α} (h : RowV g w v l) (b : Below w.heap.size w w') : RowV g w' v l := by
  obtain ⟨o, cap, e, h⟩ := h
  exact ⟨o, cap, e, h.later b⟩
theorem RowV.nil {α : Type} {g : α → Value} (w : World) : RowV g w (.slice none 0 0) [] := ⟨none, 0, rfl, Nat.le_refl _, by omega, fun i h => by simp at h⟩
theorem RowV.own {α : Type} {g : α → Value} {w : World} {B e : Nat} {v : Value} {l : List α} (h : w.ownsRow B e 1 v l.length (l.map g)) : RowV g w v l := by
  rcases h.2 with ⟨rfl, h0⟩ | ⟨b, cap, cur, rfl, hb, hg, h1, h2, h3, h4⟩
  · have : l = [] := List.length_eq_zero_iff.1 h0
    subst this
    exact RowV.nil w
  · refine ⟨_, cap, rfl, h1, by unfold maxLen at h2; omega, fun i hi => ⟨b, 0, rfl, (Array.getElem?_eq_some_iff.1 hg).1, ?_⟩⟩
    rw [Lib.cell_of_heap hg, Nat.zero_add]
    have e1 : (cur.toList.take (l.length * 1))[i]? = (l.map g)[i]? := by rw [← h4]
    rw [Nat.mul_one, List.getElem?_take_of_lt hi, Array.getElem?_toList] at e1
    rw [e1]
    simp [hi]

/-- a list of merges that is read -/
structure Mgs (w : World) (v : Value) (l : List Mg) : Prop where
  form : ∃ o cap, v = .slice o l.length cap ∧ l.length ≤ cap ∧ cap ≤ 9223372036854775807 ∧ ∀ i (h : i < l.length), ∃ b off, o = some ⟨b, off, none⟩ ∧ b < w.heap.size ∧ w.cell? ⟨b, off + i * 2, none⟩ = some (iv l[i].1) ∧ w.cell? ⟨b, off + i * 2 + 1, none⟩ = some (iv l[i].2)
theorem Mgs.later {w w' : World} {v : Value} {l : List Mg} (h : Mgs w v l) (hb : Below w.heap.size w w') : Mgs w' v l := by
  obtain ⟨o, cap, e, h1, h2, h3⟩ := h.form
  refine ⟨o, cap, e, h1, h2, fun i hi => ?_⟩
  obtain ⟨b, off, e, hlt, c1, c2⟩ := h3 i hi
  exact ⟨b, off, e, Nat.lt_of_lt_of_le hlt hb.size, by rw [hb.cell hlt]; exact c1, by rw [hb.cell hlt]; exact c2⟩
def I64 (x : Int) : Prop := -9223372036854775808 ≤ x ∧ x ≤ 9223372036854775807
def Wide (l : List Mg) : Prop := ∀ m ∈ l, I64 m.1 ∧ I64 m.2

set_option maxHeartbeats 1000000 in
theorem isId_any (x : Int) (n : Nat) (w : World) : Calls Try.prog 103 #[.int .i64 x, .int .i64 (n : Int)] w fun e w' => e = .returned (.bool (decide (InR x n))) ∧ w' = w := by
  by_cases h1 : 0 ≤ x
  · have e : decide (InR x n) = decide (x < (n : Int)) := decide_eq_decide.2 ⟨fun h => h.2, fun h => ⟨h1, h⟩⟩
    rw [e]
    go_enter Try.func103, Try.ntmps103
    go_wp2_with (fail)
    go_ret
    exact ⟨rfl, rfl⟩
  · have e : decide (InR x n) = false := decide_eq_false (fun h => h1 h.1)
    rw [e]
    go_enter Try.func103, Try.ntmps103
    go_wp2_with (fail)
    go_ret
    exact ⟨rfl, rfl⟩

set_option maxHeartbeats 1000000 in
theorem ints_same (l : List Int) (v1 v2 : Value) (w : World) (h1 : IntsV w v1 l) (h2 : IntsV w v2 l) : Calls Try.prog 11 #[v1, v2] w fun e w' => e = .returned (.bool true) ∧ Below w.heap.size w w' := by
  obtain ⟨o, cap, rfl, h1⟩ := h1
  obtain ⟨o', cap', rfl, h2⟩ := h2
  have f1 := h1.fit
  have f2 := h1.top
  have f3 := h2.fit
  have f4 := h2.top
  have H1 : Hid (Row (In w) w iv o cap l) := h1
  have H2 : Hid (Row (In w) w iv o' cap' l) := h2
  clear h1 h2
  go_enter Try.func11, Try.ntmps11
  go_wp2_with (fail)
  go_loopw [13] (fun y wr => ∃ i : Nat, y = .int .i64 i ∧ i ≤ l.length ∧ Below w.heap.size w wr) (fun y _ => l.length - (intOf y).toNat)
  case atStart => exact ⟨0, rfl, by omega, Below.refl _ _⟩
  case round =>
    obtain ⟨i, rfl, hil, hB⟩ := hrel
    by_cases hend : i < l.length
    · obtain ⟨b, off, rfl, hb, hc⟩ := H1.out.lie i hend
      obtain ⟨b', off', rfl, hb', hc'⟩ := H2.out.lie i hend
      have k1 := (hB.cell (p := ⟨b, off + i, none⟩) hb).trans hc
      have k2 := (hB.cell (p := ⟨b', off' + i, none⟩) hb').trans hc'
      generalize l[i] = x at *
      clear hc hc'
      go_wp2_with (fail)
      go_quiet (fail)
      go_wp2_with (fail)
      go_roundw
      case rel => exact ⟨i + 1, by go_num, by omega, below_drewN hB _⟩
      case measure => simp [intOf]; omega
    · go_wp2_with (fail)
      go_ret
      exact ⟨rfl, hB⟩
theorem RowV.take {α : Type} {g : α → Value} {w : World} {o : Option Addr} {n cap : Nat} {l : List α} (h : RowV g w (.slice o n cap) l) (m : Nat) (hm : m ≤ n) : n = l.length ∧ RowV g w (.slice o m cap) (l.take m) := by
  obtain ⟨o', cap', e, h⟩ := h
  obtain ⟨rfl, rfl, rfl⟩ : o = o' ∧ n = l.length ∧ cap = cap' := by simpa using e
  refine ⟨rfl, o, cap, by rw [List.length_take, Nat.min_eq_left hm], ⟨?_, h.top, fun i hi => ?_⟩⟩
  · have := h.fit; rw [List.length_take]; omega
  · rw [List.length_take] at hi
    obtain ⟨b, off, e, hp, hc⟩ := h.lie i (by omega)
    exact ⟨b, off, e, hp, by rw [hc]; simp⟩
end Go.Proofs.Ytmmlibehihknbaa.mg

namespace Go.Proofs.Ytmmlibehihknbaa.mg
open Go.ChangeShapes Go.WideShapes Go.ChangeAt Go.RowKit
set_option linter.unusedVariables false
set_option maxRecDepth 100000

def rkv (l : List Mg) (p : Mg) : Int := if p ∈ l then (l.idxOf p : Int) else -1
theorem rkv_at {l : List Mg} {p : Mg} {i : Nat} (hi : i < l.length) (he : l[i] = p) (hn : p ∉ l.take i) : rkv l p = (i : Int) := by
  have hm : p ∈ l := he ▸ List.getElem_mem hi
  unfold rkv
  rw [if_pos hm]
  congr 1
  have e : l = l.take i ++ p :: l.drop (i + 1) := by
    rw [← he, ← List.drop_eq_getElem_cons hi, List.take_append_drop]
  rw [e, List.idxOf_append, if_neg hn]
  simp
  omega
theorem rkv_no {l : List Mg} {p : Mg} (hn : p ∉ l) : rkv l p = -1 := by unfold rkv; rw [if_neg hn]

set_option maxHeartbeats 2000000 in
theorem rank_any (l : List Mg) (a b : Int) (r : Int) (hr : r = rkv l (a, b)) (v : Value) (w : World) (hv : Mgs w v l) : Calls Try.prog 38 #[v, .int .i64 a, .int .i64 b] w fun e w' => e = .returned (.int .i64 r) ∧ Below w.heap.size w w' := by
  obtain ⟨o, cap, rfl, hl, hm, hc⟩ := hv.form
  have HC := (show Hid _ from hc)
  have HR : Hid (r = rkv l (a, b)) := hr
  clear hv hc hr
  go_enter Try.func38, Try.ntmps38
  go_wp2_with (fail)
  go_loopw [11] (fun y wr => ∃ i : Nat, y = .int .i64 i ∧ i ≤ l.length ∧ Hid ((a, b) ∉ l.take i) ∧ Below w.heap.size w wr) (fun y _ => l.length - (intOf y).toNat)
  case atStart => exact ⟨0, rfl, by omega, by show _ ∉ _; simp, Below.refl _ _⟩
  case round =>
    obtain ⟨i, rfl, hil, HN, hB⟩ := hrel
    by_cases hend : i < l.length
    · obtain ⟨g, off, rfl, hlt, c1, c2⟩ := HC.out i hend
      have k1 := (hB.cell (p := ⟨g, off + i * 2, none⟩) hlt).trans c1
      have k2 := (hB.cell (p := ⟨g, off + i * 2 + 1, none⟩) hlt).trans c2
      have HE : Hid (l[i] = (a, b) → r = (i : Int)) := fun h => by rw [HR.out, rkv_at hend h HN.out]
      have HX : Hid (l[i] ≠ (a, b) → (a, b) ∉ l.take (i + 1)) := fun h h2 => by
        rw [List.take_add_one, List.getElem?_eq_getElem hend] at h2
        rcases List.mem_append.1 h2 with h3 | h3
        · exact HN.out h3
        · simp at h3; exact h h3.symm
      clear c1 c2 HN
      generalize l[i] = m at *
      obtain ⟨x, y⟩ := m
      have hBA := hB.alloc hB.size (.cells #[.int .i64 x, .int .i64 y] 70)
      by_cases h1 : x = a
      · have q1 : (x == a) = true := beq_iff_eq.2 h1
        by_cases h2 : y = b
        · have q2 : (y == b) = true := beq_iff_eq.2 h2
          have HE2 : Hid (r = (i : Int)) := HE.out (by rw [h1, h2])
          clear h1 h2 HX HE
          go_wp2_with (fail)
          go_ret
          exact ⟨by rw [HE2.out]; rfl, hBA⟩
        · have q2 : (y == b) = false := beq_eq_false_iff_ne.2 h2
          have HX2 := (show Hid _ from HX.out (fun e => h2 (congrArg Prod.snd e)))
          clear h1 h2 HX HE
          go_wp2_with (fail)
          go_roundw
          case rel => exact ⟨i + 1, by go_num, by omega, HX2.out, hBA⟩
          case measure => simp [intOf]; omega
      · have q1 : (x == a) = false := beq_eq_false_iff_ne.2 h1
        have HX2 := (show Hid _ from HX.out (fun e => h1 (congrArg Prod.fst e)))
        clear h1 HX HE
        go_wp2_with (fail)
        go_roundw
        case rel => exact ⟨i + 1, by go_num, by omega, HX2.out, hBA⟩
        case measure => simp [intOf]; omega
    · have HR2 : Hid (r = -1) := by
        show _ = _
        rw [HR.out]
        refine rkv_no ?_
        have := HN.out
        rwa [List.take_of_length_le (by omega)] at this
      go_wp2_with (fail)
      go_ret
      exact ⟨by rw [HR2.out]; rfl, hB⟩
end Go.Proofs.Ytmmlibehihknbaa.mg

namespace Go.Proofs.Ytmmlibehihknbaa.ow
open Go.RowKit Go.Shelf
set_option linter.unusedVariables false
set_option maxRecDepth 100000

section
variable {W W' : World} {B e sz n : Nat} {v : Value} {xs : List Value}
theorem keep (h : W.ownsRow B e sz v n xs) (hh : ∀ g, v.ownBlock = some g → W'.heap[g]? = W.heap[g]?) : W'.ownsRow B e sz v n xs := by
  refine ⟨h.1, ?_⟩
  rcases h.2 with h0 | ⟨g, cap, cur, rfl, hb, hg, hr⟩
  · exact .inl h0
  · exact .inr ⟨g, cap, cur, rfl, hb, (hh g rfl).trans hg, hr⟩
theorem lt (h : W.ownsRow B e sz v n xs) {g : Nat} (e : v.ownBlock = some g) : B ≤ g ∧ g < W.heap.size := by
  rcases h.2 with ⟨rfl, _⟩ | ⟨gg, cap, cur, rfl, hb, hgg, _⟩
  · cases e
  · cases e; exact ⟨hb, (Array.getElem?_eq_some_iff.1 hgg).1⟩
theorem later (h : W.ownsRow B e sz v n xs) (b : Below W.heap.size W W') : W'.ownsRow B e sz v n xs := keep h fun g eg => b.block g (lt h eg).2
theorem type (h : W.ownsRow B e sz v n xs) {g : Nat} {cs : Array Value} {t : TypeId} {fr : Nat × Nat} (hg : W.heap[g]? = some (.cells cs t fr)) (ht : t ≠ e) : some g ≠ v.ownBlock := by
  intro e
  rcases h.2 with ⟨rfl, _⟩ | ⟨gg, cap, cur, rfl, _, hgg, _⟩
  · cases e
  · cases e
    rw [hg] at hgg
    cases hgg
    exact ht rfl
theorem kind (h : W.ownsRow B e sz v n xs) {g : Nat} {ob : Obj} (hg : W.heap[g]? = some ob) (ht : ob.isCells = false) : some g ≠ v.ownBlock := by
  intro e
  rcases h.2 with ⟨rfl, _⟩ | ⟨gg, cap, cur, rfl, _, hgg, _⟩
  · cases e
  · cases e
    rw [hg] at hgg
    cases hgg
    cases ht
theorem form (h : W.ownsRow B e sz v n xs) : ∃ g cap, v = .slice g n cap ∧ n ≤ cap ∧ cap ≤ 9223372036854775807 := by
  rcases h.2 with ⟨rfl, rfl⟩ | ⟨gg, cap, cur, rfl, hb, _, h1, h2, _⟩
  · exact ⟨_, _, rfl, Nat.le_refl _, by omega⟩
  · exact ⟨_, _, rfl, h1, by unfold maxLen at h2; omega⟩
theorem cell (h : W.ownsRow B e sz v n xs) (i : Nat) (hi : i < xs.length) : ∃ g cap, v = .slice (some ⟨g, 0, none⟩) n cap ∧ g < W.heap.size ∧ W.cell? ⟨g, i, none⟩ = some xs[i] := by
  rcases h.2 with ⟨rfl, rfl⟩ | ⟨gg, cap, cur, rfl, hb, hg, h1, h2, h3, h4⟩
  · have := h.1; omega
  · refine ⟨gg, cap, rfl, (Array.getElem?_eq_some_iff.1 hg).1, ?_⟩
    rw [Lib.cell_of_heap hg]
    have hx := h.1
    subst h4
    have hc : i < cur.size := by
      simp at hi; omega
    simp [hc]
end
theorem nil (W : World) (B e sz : Nat) : W.ownsRow B e sz (.slice none 0 0) 0 [] := ⟨by simp, .inl ⟨rfl, rfl⟩⟩

theorem append_any (w : World) (t ty e : TypeId) (z : Value) (sz bytes : Nat) (hu : Try.prog.underlying t = some (.slice e)) (hinfo : (Try.prog.info? e).map (fun i => (i.zero, i.size, i.bytes)) = some (some z, sz, bytes)) (hzs : z.cells.size = sz) (hsz : 0 < sz) (hby : bytes ≤ 1000)
    (B : Nat) (v : Value) (n : Nat) (xs : List Value) (hown : w.ownsRow B e sz v n xs) (g : Nat) (news : List Value) (hnl : news.length = sz) (hnews : ∀ j u, news[j]? = some u → w.cell? ((⟨g, 0, none⟩ : Addr).add j) = some u) (hone : ∀ u ∈ news, u.oneCell' = true) (hsm : n ≤ 1000000) (hB : B ≤ w.heap.size) :
    ∃ g' cap' w', (Builtin.append_ #[t, t] ty #[v, .slice (some ⟨g, 0, none⟩) 1 1]).run Try.prog w = .ok (.slice (some ⟨g', 0, none⟩) (n + 1) cap') w' ∧ w'.ownsRow B e sz (.slice (some ⟨g', 0, none⟩) (n + 1) cap') (n + 1) (xs ++ news) ∧ w.grownBy w' v.ownBlock ∧ (some g' = v.ownBlock ∨ w.heap.size ≤ g') := by
  obtain ⟨i0, hi, hz0, hz1, hz2⟩ := info_parts hinfo
  have hbb : (n + 1) * bytes ≤ 140737488355328 := Nat.le_trans (Nat.mul_le_mul (show n + 1 ≤ 1000001 by omega) hby) (by decide)
  obtain ⟨v', w', hr, h2, h3, h4⟩ := run_append_own (P := Try.prog) w B t ty e i0 _ sz bytes hu hi hz0 hz1 hz2 hzs hsz v n _ hown ⟨g, 0, none⟩ 1 1 news (by omega) hnews hone (by unfold maxLen; omega) hbb hB
  obtain ⟨g', cap', rfl⟩ := ownsRow_succ h2
  refine ⟨g', cap', w', hr, h2, h3, ?_⟩
  have hl2 : news.length = 1 * i0.size := by rw [hz1]; omega
  rcases hown.2 with ⟨rfl, h0⟩ | ⟨gg, cap, cur, rfl, hbg, hg, hnc, hcm, hcs, htake⟩
  · have hr2 := run_append_nil (P := Try.prog) w t ty e i0 _ hu hi hz0 ⟨g, 0, none⟩ 1 1 news hl2 hnews (by omega) (by omega) (by rw [hz2]; omega)
    rw [hr2] at hr
    injection hr with e1 e2
    simp at e1
    exact .inr (by omega)
  · by_cases hroom : n + 1 ≤ cap
    · have hfit : n * i0.size + news.length ≤ cur.size := by rw [hl2, hcs, hz1, ← Nat.add_mul]; exact Nat.mul_le_mul_right _ hroom
      have hr2 := run_append_room (P := Try.prog) w t ty e i0 hu hi gg n cap cur hg ⟨g, 0, none⟩ 1 1 news hl2 hnews hone hroom hfit
      rw [hr2] at hr
      injection hr with e1 e2
      simp at e1
      exact .inl (by simp [Value.ownBlock, e1.1])
    · have hr2 := run_append_grow (P := Try.prog) w t ty e i0 _ hu hi hz0 ⟨gg, 0, none⟩ n cap _ (by rw [hz1]; exact hown.1) (hown.cells (g := gg) rfl) ⟨g, 0, none⟩ 1 1 news hl2 hnews (by omega) (by omega) (growslice_fits (by omega) (by rw [hz2]; exact hbb))
      rw [hr2] at hr
      injection hr with e1 e2
      simp at e1
      exact .inr (by omega)
theorem wp_append {o : Oper} {a : Act} {w : World} {K : Act → World → Prop} {Q : Exit → Act → World → Prop} (s x : Operand) (t : TypeId)
    (ho : o.op = Op.call { callee := Callee.builtin Builtin.append, args := #[s, x], argTypes := #[t, t] }) (e : TypeId) (z : Value) (sz bytes : Nat) (hu : Try.prog.underlying t = some (.slice e)) (hinfo : (Try.prog.info? e).map (fun i => (i.zero, i.size, i.bytes)) = some (some z, sz, bytes)) (hzs : z.cells.size = sz) (hsz : 0 < sz) (hby : bytes ≤ 1000)
    (B : Nat) (v : Value) (n : Nat) (xs : List Value) (g : Nat) (news : List Value) (hs : a.eval s = v) (hx : a.eval x = .slice (some ⟨g, 0, none⟩) 1 1) (hown : w.ownsRow B e sz v n xs) (hnl : news.length = sz) (hnews : ∀ j u, news[j]? = some u → w.cell? ((⟨g, 0, none⟩ : Addr).add j) = some u) (hone : ∀ u ∈ news, u.oneCell' = true) (hsm : n ≤ 1000000) (hB : B ≤ w.heap.size)
    (hK : ∀ g' cap' w', w'.ownsRow B e sz (.slice (some ⟨g', 0, none⟩) (n + 1) cap') (n + 1) (xs ++ news) → w.grownBy w' v.ownBlock → (some g' = v.ownBlock ∨ w.heap.size ≤ g') → K (a.put o.dst (.slice (some ⟨g', 0, none⟩) (n + 1) cap')) w') : Oper.wp Try.prog o a w K Q := by
  obtain ⟨g', cap', w', hr, h2, h3, h4⟩ := append_any w t o.type e z sz bytes hu hinfo hzs hsz hby B v n xs hown g news hnl hnews hone hsm hB
  unfold Oper.wp execOp
  simp only [ho, resolve, invoke, builtin, Sem.run_bind, Sem.run_pure, Result.andThen_ok, List.map_toArray, List.map_cons, List.map_nil, hs, hx, hr]
  exact hK g' cap' w' h2 h3 h4
theorem wpList_append {ops : Array Oper} {rest : List Oper} {o : Oper} {a : Act} {w : World} {Q : Exit → Act → World → Prop} (hgd : o.guard = none) (s x : Operand) (t : TypeId)
    (ho : o.op = Op.call { callee := Callee.builtin Builtin.append, args := #[s, x], argTypes := #[t, t] }) (e : TypeId) (z : Value) (sz bytes : Nat) (hu : Try.prog.underlying t = some (.slice e)) (hinfo : (Try.prog.info? e).map (fun i => (i.zero, i.size, i.bytes)) = some (some z, sz, bytes)) (hzs : z.cells.size = sz) (hsz : 0 < sz) (hby : bytes ≤ 1000)
    (B : Nat) (v : Value) (n : Nat) (xs : List Value) (g : Nat) (news : List Value) (hs : a.eval s = v) (hx : a.eval x = .slice (some ⟨g, 0, none⟩) 1 1) (hown : w.ownsRow B e sz v n xs) (hnl : news.length = sz) (hnews : ∀ j u, news[j]? = some u → w.cell? ((⟨g, 0, none⟩ : Addr).add j) = some u) (hone : ∀ u ∈ news, u.oneCell' = true) (hsm : n ≤ 1000000) (hB : B ≤ w.heap.size)
    (hK : ∀ g' cap' w', w'.ownsRow B e sz (.slice (some ⟨g', 0, none⟩) (n + 1) cap') (n + 1) (xs ++ news) → w.grownBy w' v.ownBlock → (some g' = v.ownBlock ∨ w.heap.size ≤ g') → wpList Try.prog ops Q rest (a.put o.dst (.slice (some ⟨g', 0, none⟩) (n + 1) cap')) w') : wpList Try.prog ops Q (o :: rest) a w := by
  refine wpList_plain hgd fun K hK' => ?_
  refine wp_append s x t ho e z sz bytes hu hinfo hzs hsz hby B v n xs g news hs hx hown hnl hnews hone hsm hB ?_
  intro g' cap' w' h1 h2 h3
  exact hK' _ _ (hK g' cap' w' h1 h2 h3)
theorem step_append {ops : Array Oper} {o : Oper} {a : Act} {w : World} {K : Act → World → Prop} {Q : Exit → Act → World → Prop} {E : Prop} (hgd : o.guard = none) (s x : Operand) (t : TypeId)
    (ho : o.op = Op.call { callee := Callee.builtin Builtin.append, args := #[s, x], argTypes := #[t, t] }) (e : TypeId) (z : Value) (sz bytes : Nat) (hu : Try.prog.underlying t = some (.slice e)) (hinfo : (Try.prog.info? e).map (fun i => (i.zero, i.size, i.bytes)) = some (some z, sz, bytes)) (hzs : z.cells.size = sz) (hsz : 0 < sz) (hby : bytes ≤ 1000)
    (B : Nat) (v : Value) (n : Nat) (xs : List Value) (g : Nat) (news : List Value) (hs : a.eval s = v) (hx : a.eval x = .slice (some ⟨g, 0, none⟩) 1 1) (hown : w.ownsRow B e sz v n xs) (hnl : news.length = sz) (hnews : ∀ j u, news[j]? = some u → w.cell? ((⟨g, 0, none⟩ : Addr).add j) = some u) (hone : ∀ u ∈ news, u.oneCell' = true) (hsm : n ≤ 1000000) (hB : B ≤ w.heap.size)
    (hK : ∀ g' cap' w', w'.ownsRow B e sz (.slice (some ⟨g', 0, none⟩) (n + 1) cap') (n + 1) (xs ++ news) → w.grownBy w' v.ownBlock → (some g' = v.ownBlock ∨ w.heap.size ≤ g') → K (a.put o.dst (.slice (some ⟨g', 0, none⟩) (n + 1) cap')) w') : if Region.wanted o (yielded ops a.tmps) = true then Oper.wp Try.prog o a w K Q else E := by
  have hw : Region.wanted o (yielded ops a.tmps) = true := by simp [Region.wanted, hgd]
  rw [if_pos hw]
  exact wp_append s x t ho e z sz bytes hu hinfo hzs hsz hby B v n xs g news hs hx hown hnl hnews hone hsm hB hK
/-- one cell, just laid -/
theorem new1 (W : World) (u : Value) (t : TypeId) : ∀ j x, [u][j]? = some x → (W.alloc (.cells #[u] t)).cell? ((⟨W.heap.size, 0, none⟩ : Addr).add j) = some x := fun j x hx => by
  rcases j with _ | j
  · simp at hx
    subst hx
    rw [show ((⟨W.heap.size, 0, none⟩ : Addr).add 0) = ⟨W.heap.size, 0, none⟩ from rfl, Lib.cell_of_heap (World.alloc_heap_new W _)]
    rfl
  · simp at hx
theorem one1 (u : Value) (h : u.oneCell' = true) : ∀ x ∈ [u], x.oneCell' = true := fun x hx => by rw [List.mem_singleton.1 hx]; exact h
end Go.Proofs.Ytmmlibehihknbaa.ow
