/-
  Plain mathematics, no program: merges, which may be, the texts of ids, lists of ids merged.
-/
import Derived.WalkKit
namespace Go.Proofs.Ythmecbonjkcnmaa.mg
set_option linter.unusedVariables false

abbrev Mg := Int × Int
def oneB (b : Nat) : ByteArray := ⟨#[UInt8.ofNat b]⟩
theorem oneB_size (b : Nat) : (oneB b).size = 1 := rfl
def bytesT (n : Nat) : List ByteArray := (List.range n).map oneB
theorem bytesT_len (n : Nat) : (bytesT n).length = n := by simp [bytesT]
theorem bytesT_succ (n : Nat) : bytesT (n + 1) = bytesT n ++ [oneB n] := by simp [bytesT, List.range_succ]
theorem bytesT_at (n i : Nat) (h : i < n) : (bytesT n)[i]? = some (oneB i) := by simp [bytesT, h]

theorem ba_ext {a b : ByteArray} (h : a.data.toList = b.data.toList) : a = b := by
  cases a with | mk a => cases b with | mk b => simp at h; rw [h]
theorem app_data (a b : ByteArray) : (a ++ b).data.toList = a.data.toList ++ b.data.toList := by simp
theorem app_size (a b : ByteArray) : (a ++ b).size = a.size + b.size := by simp

def atI (ts : List ByteArray) (x : Int) : ByteArray := ts.getD x.toNat ⟨#[]⟩
def txt (ts : List ByteArray) (m : Mg) : ByteArray := atI ts m.1 ++ atI ts m.2
def InR (x : Int) (n : Nat) : Prop := 0 ≤ x ∧ x < (n : Int)
instance (x : Int) (n : Nat) : Decidable (InR x n) := by unfold InR; infer_instance
def Ok (n : Nat) (ts : List ByteArray) (m : Mg) : Prop := InR m.1 ts.length ∧ InR m.2 ts.length ∧ (txt ts m).size ≤ 64 ∧ txt ts m ∉ ts.drop n
instance decB (t : ByteArray) (l : List ByteArray) : Decidable (t ∈ l) := decidable_of_iff (t.data.toList ∈ l.map fun x => x.data.toList) ⟨fun h => by
  obtain ⟨x, hx, e⟩ := List.mem_map.1 h
  rw [← ba_ext e]
  exact hx, fun h => List.mem_map.2 ⟨t, h, rfl⟩⟩
instance (n : Nat) (ts : List ByteArray) (m : Mg) : Decidable (Ok n ts m) := by unfold Ok; infer_instance

def run (n : Nat) (ts : List ByteArray) : List Mg → Option (List ByteArray)
  | [] => some ts
  | m :: l => if Ok n ts m then run n (ts ++ [txt ts m]) l else none
def errOf (l : List Mg) : Nat := if 1024 < l.length then 2 else if (run 256 (bytesT 256) l).isSome then 0 else 130
def textsOf (l : List Mg) : List ByteArray := if 1024 < l.length then [] else (run 256 (bytesT 256) l).getD []

theorem errOf_cases (l : List Mg) : errOf l = 2 ∨ errOf l = 130 ∨ errOf l = 0 := by
  unfold errOf
  split
  · exact .inl rfl
  · split
    · exact .inr (.inr rfl)
    · exact .inr (.inl rfl)
theorem textsOf_bad {l : List Mg} (h : errOf l ≠ 0) : textsOf l = [] := by
  unfold errOf at h
  unfold textsOf
  split
  · rfl
  · rename_i h1
    rw [if_neg h1] at h
    cases e : run 256 (bytesT 256) l with
    | none => rfl
    | some r => rw [e] at h; simp at h
theorem ok_run {l : List Mg} (h : errOf l = 0) : l.length ≤ 1024 ∧ run 256 (bytesT 256) l = some (textsOf l) := by
  unfold errOf at h
  split at h
  · omega
  · rename_i h1
    refine ⟨by omega, ?_⟩
    split at h
    · rename_i h2
      unfold textsOf
      rw [if_neg h1]
      cases e : run 256 (bytesT 256) l with
      | none => rw [e] at h2; cases h2
      | some r => rfl
    · omega

theorem atI_left (ts : List ByteArray) (r : List ByteArray) (x : Int) (h : x.toNat < ts.length) : atI (ts ++ r) x = atI ts x := by
  unfold atI
  rw [List.getD_eq_getElem?_getD, List.getD_eq_getElem?_getD, List.getElem?_append_left h]

/-- what texts of merges that may be are -/
structure Fine (l : List Mg) (ts : List ByteArray) : Prop where
  len : ts.length = 256 + l.length
  low : ∀ i, i < 256 → ts[i]? = some (oneB i)
  rng : ∀ k m, l[k]? = some m → InR m.1 (256 + k) ∧ InR m.2 (256 + k)
  txt : ∀ k m, l[k]? = some m → ts[256 + k]? = some (txt ts m)
  size : ∀ t ∈ ts, 1 ≤ t.size ∧ t.size ≤ 64
  nodup : (ts.drop 256).Nodup
theorem fine_nil : Fine [] (bytesT 256) := by
  refine ⟨bytesT_len 256, fun i h => bytesT_at 256 i h, fun k m h => by simp at h, fun k m h => by simp at h, fun t ht => ?_, ?_⟩
  · obtain ⟨i, _, rfl⟩ := List.mem_map.1 ht
    rw [oneB_size]
    omega
  · rw [List.drop_eq_nil_of_le (by rw [bytesT_len]; exact Nat.le_refl _)]
    exact List.nodup_nil
theorem atI_mem {ts : List ByteArray} {x : Int} (h : InR x ts.length) : atI ts x ∈ ts := by
  unfold atI
  have : x.toNat < ts.length := by unfold InR at h; omega
  rw [List.getD_eq_getElem?_getD, List.getElem?_eq_getElem this]
  exact List.getElem_mem this
theorem Fine.push {l : List Mg} {ts : List ByteArray} (h : Fine l ts) {m : Mg} (k : Ok 256 ts m) : Fine (l ++ [m]) (ts ++ [mg.txt ts m]) := by
  obtain ⟨k1, k2, k3, k4⟩ := k
  have hl := h.len
  refine ⟨by simp [hl]; omega, fun i hi => ?_, fun j x hj => ?_, fun j x hj => ?_, fun t ht => ?_, ?_⟩
  · rw [List.getElem?_append_left (by omega)]
    exact h.low i hi
  · by_cases e : j < l.length
    · rw [List.getElem?_append_left e] at hj
      exact h.rng j x hj
    · have hj2 := (List.getElem?_eq_some_iff.1 hj).1
      have e2 : j = l.length := by simp at hj2; omega
      subst e2
      simp at hj
      subst hj
      rw [← hl]
      exact ⟨k1, k2⟩
  · by_cases e : j < l.length
    · rw [List.getElem?_append_left e] at hj
      rw [List.getElem?_append_left (by omega), h.txt j x hj]
      have hr := h.rng j x hj
      unfold InR at hr
      unfold mg.txt
      rw [atI_left _ _ _ (by omega), atI_left _ _ _ (by omega)]
    · have hj2 := (List.getElem?_eq_some_iff.1 hj).1
      have e2 : j = l.length := by simp at hj2; omega
      subst e2
      simp at hj
      subst hj
      rw [List.getElem?_append_right (by omega), hl]
      simp only [Nat.sub_self, List.getElem?_cons_zero]
      unfold InR at k1 k2
      unfold mg.txt
      rw [atI_left _ _ _ (by omega), atI_left _ _ _ (by omega)]
  · rcases List.mem_append.1 ht with h1 | h1
    · exact h.size t h1
    · rw [List.mem_singleton.1 h1]
      refine ⟨?_, k3⟩
      unfold mg.txt
      rw [app_size]
      have := (h.size _ (atI_mem k1)).1
      omega
  · rw [List.drop_append_of_le_length (by omega), List.nodup_append]
    refine ⟨h.nodup, by simp, fun a ha b hb e => ?_⟩
    rw [List.mem_singleton.1 hb] at e
    exact k4 (e ▸ ha)
theorem fine_run : ∀ (l l0 : List Mg) (ts r : List ByteArray), Fine l0 ts → run 256 ts l = some r → Fine (l0 ++ l) r := by
  intro l
  induction l with
  | nil => intro l0 ts r h e; rw [run] at e; cases e; rw [List.append_nil]; exact h
  | cons m l ih =>
    intro l0 ts r h e
    rw [run] at e
    split at e
    · rename_i k
      have := ih (l0 ++ [m]) _ r (h.push k) e
      rw [List.append_assoc] at this
      exact this
    · cases e
theorem fine {l : List Mg} (h : errOf l = 0) : Fine l (textsOf l) := fine_run l [] _ _ fine_nil (ok_run h).2
theorem Fine.once {l : List Mg} {ts : List ByteArray} (h : Fine l ts) {i j : Nat} {m : Mg} (hi : l[i]? = some m) (hj : l[j]? = some m) : i = j := by
  have e1 := h.txt i m hi
  have e2 := h.txt j m hj
  have d1 : (ts.drop 256)[i]? = some (mg.txt ts m) := by rw [List.getElem?_drop]; exact e1
  have d2 : (ts.drop 256)[j]? = some (mg.txt ts m) := by rw [List.getElem?_drop]; exact e2
  exact (List.getElem?_inj (List.getElem?_eq_some_iff.1 d1).1 h.nodup).1 (d1.trans d2.symm)

/-! merging -/
def pr (l : List Mg) (p : Mg) : Nat := if p ∈ l then l.idxOf p else 1024
def rk (l : List Mg) (ids : List Int) (i : Nat) : Nat := if i + 1 < ids.length then pr l (ids.getD i 0, ids.getD (i + 1) 0) else 1024
def lst (f : Nat → Nat) : Nat → Nat × Int
  | 0 => (1024, -1)
  | i + 1 => if f i < (lst f i).1 then (f i, (i : Int)) else lst f i
theorem lst_spec (f : Nat → Nat) (n : Nat) : ((lst f n).2 = -1 ∧ (lst f n).1 = 1024 ∧ ∀ i, i < n → 1024 ≤ f i) ∨ (∃ k : Nat, (lst f n).2 = (k : Int) ∧ k < n ∧ f k = (lst f n).1 ∧ (lst f n).1 < 1024 ∧ (∀ i, i < n → (lst f n).1 ≤ f i) ∧ ∀ i, i < k → (lst f n).1 < f i) := by
  induction n with
  | zero => exact .inl ⟨rfl, rfl, fun i hi => by omega⟩
  | succ n ih =>
    rw [lst]
    by_cases h : f n < (lst f n).1
    · rw [if_pos h]
      refine .inr ⟨n, rfl, by omega, rfl, ?_, fun i hi => ?_, fun i hi => ?_⟩
      · rcases ih with ⟨_, a, _⟩ | ⟨_, _, _, _, a, _⟩ <;> simp <;> omega
      · by_cases e : i = n
        · subst e; exact Nat.le_refl _
        · rcases ih with ⟨_, a, b⟩ | ⟨_, _, _, _, a, b, _⟩
          · have := b i (by omega); simp; omega
          · have := b i (by omega); simp; omega
      · rcases ih with ⟨_, a, b⟩ | ⟨_, _, _, _, a, b, _⟩
        · have := b i (by omega); simp; omega
        · have := b i (by omega); simp; omega
    · rw [if_neg h]
      rcases ih with ⟨a, b, c⟩ | ⟨k, a, b, c, d, e, g⟩
      · refine .inl ⟨a, b, fun i hi => ?_⟩
        by_cases e : i = n
        · subst e; omega
        · exact c i (by omega)
      · refine .inr ⟨k, a, by omega, c, d, fun i hi => ?_, g⟩
        by_cases e2 : i = n
        · subst e2; omega
        · exact e i (by omega)
theorem lst_at (f : Nat → Nat) (n k : Nat) (h1 : k < n) (h2 : f k < 1024) (h3 : ∀ i, i < n → f k ≤ f i) (h4 : ∀ i, i < k → f k < f i) : lst f n = (f k, (k : Int)) := by
  rcases lst_spec f n with ⟨a, b, c⟩ | ⟨j, a, b, c, d, e, g⟩
  · have := c k h1; omega
  · have e1 := h3 j b
    have e2 := e k h1
    have e3 : j = k := by
      rcases Nat.lt_trichotomy j k with h | h | h
      · have := h4 j h; omega
      · exact h
      · have := g k h; omega
    subst e3
    exact Prod.ext c.symm a
theorem lst_none (f : Nat → Nat) (n : Nat) (h : ∀ i, i < n → 1024 ≤ f i) : lst f n = (1024, -1) := by
  rcases lst_spec f n with ⟨a, b, c⟩ | ⟨j, a, b, c, d, e, g⟩
  · exact Prod.ext b a
  · have := h j b; omega
theorem lst_congr (f g : Nat → Nat) (n : Nat) (h : ∀ i, i < n → f i = g i) : lst f n = lst g n := by
  induction n with
  | zero => rfl
  | succ n ih => rw [lst, lst, ih (fun i hi => h i (by omega)), h n (by omega)]

def joinAt (ids : List Int) (k r : Nat) : List Int := ids.take k ++ (256 + (r : Int)) :: ids.drop (k + 2)
theorem joinAt_len (ids : List Int) (k r : Nat) (h : k + 1 < ids.length) : (joinAt ids k r).length + 1 = ids.length := by
  simp [joinAt]; omega
theorem joinAt_get (ids : List Int) (k r i : Nat) (h : k + 1 < ids.length) : (joinAt ids k r).getD i 0 = if i < k then ids.getD i 0 else if i = k then 256 + (r : Int) else ids.getD (i + 1) 0 := by
  unfold joinAt
  rw [List.getD_eq_getElem?_getD]
  by_cases h1 : i < k
  · rw [if_pos h1, List.getElem?_append_left (by simp; omega), List.getElem?_take_of_lt h1, List.getD_eq_getElem?_getD]
  · rw [if_neg h1, List.getElem?_append_right (by simp; omega)]
    have e : min k ids.length = k := by omega
    rw [List.length_take, e]
    by_cases h2 : i = k
    · subst h2
      rw [if_pos rfl, Nat.sub_self]
      rfl
    · rw [if_neg h2, show i - k = (i - k - 1) + 1 by omega, List.getElem?_cons_succ, List.getElem?_drop, List.getD_eq_getElem?_getD]
      congr 2
      omega
def nx (l : List Mg) (ids : List Int) : Option (Nat × Nat) := if (lst (rk l ids) ids.length).2 < 0 then none else some ((lst (rk l ids) ids.length).2.toNat, (lst (rk l ids) ids.length).1)
theorem rk_lt {l : List Mg} {ids : List Int} {i : Nat} (h : rk l ids i < 1024) : i + 1 < ids.length ∧ (ids.getD i 0, ids.getD (i + 1) 0) ∈ l ∧ rk l ids i = l.idxOf (ids.getD i 0, ids.getD (i + 1) 0) := by
  unfold rk at h ⊢
  split at h
  · rename_i h1
    unfold pr at h ⊢
    split at h
    · rename_i h2
      refine ⟨h1, h2, ?_⟩
      rw [if_pos h1, if_pos h2]
    · omega
  · omega
theorem nx_some {l : List Mg} {ids : List Int} {k r : Nat} (h : nx l ids = some (k, r)) : k + 1 < ids.length ∧ l[r]? = some (ids.getD k 0, ids.getD (k + 1) 0) ∧ r < l.length ∧ rk l ids k = r ∧ r < 1024 ∧ (∀ i, i < ids.length → r ≤ rk l ids i) ∧ (∀ i, i < k → r < rk l ids i) ∧ lst (rk l ids) ids.length = (r, (k : Int)) := by
  unfold nx at h
  rcases lst_spec (rk l ids) ids.length with ⟨a, b, c⟩ | ⟨j, a, b, c, d, e, g⟩
  · rw [a] at h; simp at h
  · rw [a, if_neg (by omega)] at h
    simp at h
    obtain ⟨rfl, h2⟩ := h
    rw [h2] at c d e g
    obtain ⟨q1, q2, q3⟩ := rk_lt (by rw [c]; exact d)
    rw [c] at q3
    refine ⟨q1, ?_, ?_, c, d, e, g, Prod.ext h2 a⟩
    · rw [q3, List.getElem?_eq_getElem (List.idxOf_lt_length_of_mem q2), List.getElem_idxOf]
    · rw [q3]; exact List.idxOf_lt_length_of_mem q2
theorem nx_none {l : List Mg} {ids : List Int} (h : nx l ids = none) : (∀ i, i < ids.length → 1024 ≤ rk l ids i) ∧ lst (rk l ids) ids.length = (1024, -1) := by
  unfold nx at h
  rcases lst_spec (rk l ids) ids.length with ⟨a, b, c⟩ | ⟨j, a, b, c, d, e, g⟩
  · exact ⟨c, Prod.ext b a⟩
  · rw [a, if_neg (by omega)] at h; cases h
def mgN (l : List Mg) : Nat → List Int → List Int
  | 0, ids => ids
  | n + 1, ids => match nx l ids with
    | none => ids
    | some (k, r) => mgN l n (joinAt ids k r)
def app (l : List Mg) (ids : List Int) : List Int := mgN l ids.length ids
theorem mgN_enough (l : List Mg) : ∀ (n m : Nat) (ids : List Int), ids.length ≤ n → ids.length ≤ m → mgN l n ids = mgN l m ids := by
  intro n
  induction n with
  | zero =>
    intro m ids h1 h2
    have : ids = [] := List.length_eq_zero_iff.1 (by omega)
    subst this
    cases m with
    | zero => rfl
    | succ m => rfl
  | succ n ih =>
    intro m ids h1 h2
    cases m with
    | zero =>
      have : ids = [] := List.length_eq_zero_iff.1 (by omega)
      subst this
      rfl
    | succ m =>
      rw [mgN, mgN]
      cases e : nx l ids with
      | none => rfl
      | some p =>
        obtain ⟨k, r⟩ := p
        have hl := joinAt_len ids k r (nx_some e).1
        exact ih m _ (by omega) (by omega)
theorem app_none {l : List Mg} {ids : List Int} (h : nx l ids = none) : app l ids = ids := by
  unfold app
  cases e : ids.length with
  | zero => rfl
  | succ n => rw [mgN, h]
theorem app_some {l : List Mg} {ids : List Int} {k r : Nat} (h : nx l ids = some (k, r)) : app l ids = app l (joinAt ids k r) := by
  have hl := joinAt_len ids k r (nx_some h).1
  unfold app
  rw [show ids.length = (joinAt ids k r).length + 1 by omega, mgN, h]
theorem app_ind (l : List Mg) (P : List Int → List Int → Prop) (h0 : ∀ ids, nx l ids = none → P ids ids) (h1 : ∀ ids k r out, nx l ids = some (k, r) → P (joinAt ids k r) out → P ids out) : ∀ ids, P ids (app l ids) := by
  intro ids
  generalize hn : ids.length = n
  induction n generalizing ids with
  | zero =>
    have e : nx l ids = none := by
      cases e : nx l ids with
      | none => rfl
      | some p => have := (nx_some e).1; omega
    rw [app_none e]
    exact h0 ids e
  | succ n ih =>
    cases e : nx l ids with
    | none => rw [app_none e]; exact h0 ids e
    | some p =>
      obtain ⟨k, r⟩ := p
      have hl := joinAt_len ids k r (nx_some e).1
      rw [app_some e]
      exact h1 ids k r _ e (ih _ (by omega))
theorem app_done (l : List Mg) (ids : List Int) : nx l (app l ids) = none := app_ind l (fun _ out => nx l out = none) (fun _ h => h) (fun _ _ _ _ _ h => h) ids
theorem app_len (l : List Mg) (ids : List Int) : (app l ids).length ≤ ids.length := app_ind l (fun ids out => out.length ≤ ids.length) (fun _ _ => Nat.le_refl _) (fun ids k r out h h2 => by have := joinAt_len ids k r (nx_some h).1; omega) ids
def AllIn (n : Nat) (ids : List Int) : Prop := ∀ x ∈ ids, InR x n
theorem joinAt_in {n : Nat} {ids : List Int} {k r : Nat} (h : AllIn n ids) (hr : 256 + r < n) : AllIn n (joinAt ids k r) := by
  intro x hx
  unfold joinAt at hx
  rcases List.mem_append.1 hx with h1 | h1
  · exact h x (List.mem_of_mem_take h1)
  · rcases List.mem_cons.1 h1 with h1 | h1
    · rw [h1]; unfold InR; omega
    · exact h x (List.mem_of_mem_drop h1)
theorem app_in (l : List Mg) (ids : List Int) (h : AllIn (256 + l.length) ids) : AllIn (256 + l.length) (app l ids) :=
  app_ind l (fun ids out => AllIn (256 + l.length) ids → AllIn (256 + l.length) out) (fun _ _ h => h) (fun ids k r out h h2 h3 => h2 (joinAt_in h3 (by have := (nx_some h).2.2.1; omega))) ids h
def cat (ts : List ByteArray) (ids : List Int) : List UInt8 := ids.flatMap fun i => (atI ts i).data.toList
theorem split_two (ids : List Int) (k : Nat) (h : k + 1 < ids.length) : ids = ids.take k ++ ids.getD k 0 :: ids.getD (k + 1) 0 :: ids.drop (k + 2) := by
  have e1 : ids.drop k = ids.getD k 0 :: ids.drop (k + 1) := by
    rw [List.drop_eq_getElem_cons (by omega), List.getD_eq_getElem?_getD, List.getElem?_eq_getElem (by omega)]; rfl
  have e2 : ids.drop (k + 1) = ids.getD (k + 1) 0 :: ids.drop (k + 2) := by
    rw [List.drop_eq_getElem_cons (by omega), List.getD_eq_getElem?_getD, List.getElem?_eq_getElem (by omega)]; rfl
  rw [← e2, ← e1, List.take_append_drop]
theorem cat_join {l : List Mg} {ts : List ByteArray} (F : Fine l ts) {ids : List Int} {k r : Nat} (h : nx l ids = some (k, r)) : cat ts (joinAt ids k r) = cat ts ids := by
  obtain ⟨h1, h2, h3, _⟩ := nx_some h
  have ht := F.txt r _ h2
  have e : atI ts (256 + (r : Int)) = txt ts (ids.getD k 0, ids.getD (k + 1) 0) := by
    unfold atI
    rw [show (256 + (r : Int)).toNat = 256 + r by omega, List.getD_eq_getElem?_getD, ht]
    rfl
  have hs := split_two ids k h1
  conv => rhs; rw [hs]
  unfold cat joinAt
  rw [List.flatMap_append, List.flatMap_append, List.flatMap_cons, List.flatMap_cons, List.flatMap_cons, e, txt, app_data, List.append_assoc]
theorem cat_app {l : List Mg} {ts : List ByteArray} (F : Fine l ts) (ids : List Int) : cat ts (app l ids) = cat ts ids :=
  app_ind l (fun ids out => cat ts out = cat ts ids) (fun _ _ => rfl) (fun ids k r out h h2 => by rw [h2, cat_join F h]) ids
end Go.Proofs.Ythmecbonjkcnmaa.mg
