/-
  What is written of an expression's tree is read again as that tree, what is read of any text is an expression's tree; the laws RegexBack and RegexAgain.
-/
import Derived.Test.YtfclidcfhadohaaDoorPs
import Derived.Test.YtfclidcfhadohaaDoorPa
import Derived.Test.YtfclidcfhadohaaDoorArg
import Derived.Test.YtfclidcfhadohaaDoorXr
import Derived.Test.YtfclidcfhadohaaDoorQl
import Derived.Test.YtfclidcfhadohaaDoorXp
import Derived.Lib.OthersKept
namespace Go.Proofs.YtfclidcfhadohaaDoor.bk
open Go.Proofs.YtfclidcfhadohaaDoor.st
set_option linter.unusedVariables false

def cs (l : List UInt8) : List Nat := l.map UInt8.toNat
theorem cs_app (a b : List UInt8) : cs (a ++ b) = cs a ++ cs b := List.map_append
theorem cs_cons (a : UInt8) (b : List UInt8) : cs (a :: b) = a.toNat :: cs b := rfl
theorem cs_nil : cs [] = [] := rfl
theorem cs_len (a : List UInt8) : (cs a).length = a.length := List.length_map ..
theorem nat_of (n : Nat) (h : n < 256) : (UInt8.ofNat n).toNat = n := by simp; omega

theorem hx_ok : ∀ n : Fin 16, (rp.hx n).toNat ∈ hexes ∧ hexv (rp.hx n).toNat = n := by decide +kernel
theorem behind_ok : ∀ c ∈ behind, c ∈ escapes ∧ c ≠ 110 ∧ c ≠ 116 ∧ c ≠ 114 ∧ c ≠ 120 ∧ kindOf c = none := by decide
theorem signs_behind : ∀ c ∈ signs, c ∈ behind := by decide

/-- how a byte may be written -/
theorem wr_cases (c : Nat) (h : c < 256) (b : Bool) :
    (cs (rp.wr c b) = [92, c] ∧ c ∈ behind) ∨ (cs (rp.wr c b) = [92, 110] ∧ c = 10) ∨ (cs (rp.wr c b) = [92, 116] ∧ c = 9) ∨ (cs (rp.wr c b) = [92, 114] ∧ c = 13) ∨
    (cs (rp.wr c b) = [c] ∧ c ∉ signs ∧ (b = true → c ≠ 45)) ∨ ∃ x y, x < 16 ∧ y < 16 ∧ cs (rp.wr c b) = [92, 120, (rp.hx x).toNat, (rp.hx y).toNat] ∧ c = 16 * x + y := by
  unfold rp.wr
  by_cases h1 : (rp.isSign c || (b && (decide (c = 45) || decide (c = 47)))) = true
  · rw [if_pos h1]
    refine .inl ⟨by rw [cs_cons, cs_cons, nat_of c h]; rfl, ?_⟩
    simp only [Bool.or_eq_true, Bool.and_eq_true, decide_eq_true_eq] at h1
    rcases h1 with h1 | ⟨_, rfl | rfl⟩
    · exact signs_behind c (by unfold rp.isSign at h1; simpa [signs] using h1)
    · decide
    · decide
  · rw [if_neg h1]
    by_cases h2 : c = 10
    · rw [if_pos h2]; exact .inr (.inl ⟨rfl, h2⟩)
    rw [if_neg h2]
    by_cases h3 : c = 9
    · rw [if_pos h3]; exact .inr (.inr (.inl ⟨rfl, h3⟩))
    rw [if_neg h3]
    by_cases h4 : c = 13
    · rw [if_pos h4]; exact .inr (.inr (.inr (.inl ⟨rfl, h4⟩)))
    rw [if_neg h4]
    by_cases h5 : 33 ≤ c ∧ c ≤ 126
    · rw [if_pos h5]
      refine .inr (.inr (.inr (.inr (.inl ⟨by rw [cs_cons, nat_of c h]; rfl, ?_, ?_⟩))))
      · intro hs
        apply h1
        have : rp.isSign c = true := by unfold rp.isSign; simpa [signs] using hs
        rw [this]; rfl
      · intro hb he
        apply h1
        rw [hb, he]
        simp
    · rw [if_neg h5]
      exact .inr (.inr (.inr (.inr (.inr ⟨c / 16, c % 16, by omega, by omega, rfl, by omega⟩))))

theorem outside_signs (c : Nat) (h : c ∉ signs) (h2 : c ≠ 45) : c ∉ outside := by
  intro ho
  have : ∀ c ∈ outside, c ∈ signs ∨ c = 45 := by decide
  rcases this c ho with h3 | h3
  · exact h h3
  · exact h2 h3
theorem sees_ne (s : List Nat) (c : Nat) (l : List Nat) (h : c ∉ s) : sees s (c :: l) = false := by unfold sees; simpa using h
theorem sees_in (s : List Nat) (c : Nat) (l : List Nat) (h : c ∈ s) : sees s (c :: l) = true := by unfold sees; simpa using h

theorem one_to (c : Nat) (h : c ∈ behind) (rest : List Nat) : one (c :: rest) = .ok c rest := by
  obtain ⟨h1, h2, h3, h4, h5, _⟩ := behind_ok c h
  unfold one oneOf
  rw [sees_in _ _ _ h1, if_pos rfl]
  show (if c = 110 then R.ok 10 rest else if c = 116 then .ok 9 rest else if c = 114 then .ok 13 rest else _) = _
  rw [if_neg h2, if_neg h3, if_neg h4, if_neg h5]
theorem hex_to (x : Nat) (h : x < 16) (rest : List Nat) : hex ((rp.hx x).toNat :: rest) = .ok x rest := by
  obtain ⟨h1, h2⟩ := hx_ok ⟨x, h⟩
  unfold hex oneOf
  rw [sees_in _ _ _ h1, if_pos rfl]
  show R.ok (hexv (rp.hx x).toNat) rest = _
  rw [h2]
theorem one_hex (x y : Nat) (hx : x < 16) (hy : y < 16) (rest : List Nat) : one (120 :: (rp.hx x).toNat :: (rp.hx y).toNat :: rest) = .ok (16 * x + y) rest := by
  unfold one oneOf
  rw [sees_in _ _ _ (by decide), if_pos rfl]
  show ((hex ((rp.hx x).toNat :: (rp.hx y).toNat :: rest)).then fun a l => (hex l).then fun b l => R.ok (16 * a + b) l) = _
  rw [hex_to x hx]
  show ((hex ((rp.hx y).toNat :: rest)).then fun b l => R.ok (16 * x + b) l) = _
  rw [hex_to y hy]
  rfl
theorem point_back (s l : List Nat) : point s (92 :: l) = one l := by unfold point; rw [sees_in _ _ _ (by decide), if_pos rfl]; rfl
/-- a byte is read again -/
theorem point_wr (c : Nat) (h : c < 256) (b : Bool) (rest : List Nat) : point (if b = true then outside else signs) (cs (rp.wr c b) ++ rest) = .ok c rest := by
  rcases wr_cases c h b with ⟨e, hb⟩ | ⟨e, rfl⟩ | ⟨e, rfl⟩ | ⟨e, rfl⟩ | ⟨e, hs, h45⟩ | ⟨x, y, hx, hy, e, rfl⟩
  · rw [e]; exact (point_back _ _).trans (one_to c hb rest)
  · rw [e]; exact (point_back _ _).trans rfl
  · rw [e]; exact (point_back _ _).trans rfl
  · rw [e]; exact (point_back _ _).trans rfl
  · rw [e]
    have h92 : c ∉ [92] := fun hc => hs (by have := List.mem_singleton.1 hc; subst this; decide)
    have hst : c ∉ (if b = true then outside else signs) := by
      cases b
      · exact hs
      · exact outside_signs c hs (h45 rfl)
    show point _ (c :: rest) = _
    unfold point noneOf
    rw [sees_ne _ _ _ h92, if_neg (by decide), sees_ne _ _ _ hst, if_neg (by decide)]
    rfl
  · rw [e]; exact (point_back _ _).trans (one_hex x y hx hy rest)
/-- it is no kind -/
theorem kind_wr (c : Nat) (h : c < 256) (b : Bool) (rest : List Nat) : kind (cs (rp.wr c b) ++ rest) = none := by
  rcases wr_cases c h b with ⟨e, hb⟩ | ⟨e, rfl⟩ | ⟨e, rfl⟩ | ⟨e, rfl⟩ | ⟨e, hs, h45⟩ | ⟨x, y, hx, hy, e, rfl⟩
  · rw [e]
    show (if 92 = 92 then (kindOf c).map fun q => (q, rest) else none) = none
    rw [if_pos rfl, (behind_ok c hb).2.2.2.2.2]
    rfl
  · rw [e]; rfl
  · rw [e]; rfl
  · rw [e]; rfl
  · rw [e]
    have h92 : c ≠ 92 := fun hc => hs (by subst hc; decide)
    cases rest with
    | nil => rfl
    | cons d l =>
      show (if c = 92 then _ else none) = none
      rw [if_neg h92]
  · rw [e]; rfl
/-- how it begins -/
theorem wr_head (c : Nat) (h : c < 256) (b : Bool) : ∃ x l, cs (rp.wr c b) = x :: l ∧ (x = 92 ∨ (x ∉ signs ∧ (b = true → x ≠ 45))) := by
  rcases wr_cases c h b with ⟨e, hb⟩ | ⟨e, rfl⟩ | ⟨e, rfl⟩ | ⟨e, rfl⟩ | ⟨e, hs, h45⟩ | ⟨x, y, hx, hy, e, rfl⟩
  · exact ⟨_, _, e, .inl rfl⟩
  · exact ⟨_, _, e, .inl rfl⟩
  · exact ⟨_, _, e, .inl rfl⟩
  · exact ⟨_, _, e, .inl rfl⟩
  · exact ⟨_, _, e, .inr ⟨hs, h45⟩⟩
  · exact ⟨_, _, e, .inl rfl⟩
theorem wr_sees (c : Nat) (h : c < 256) (b : Bool) (rest : List Nat) (s : List Nat) (hs : ∀ x ∈ s, x ≠ 92 ∧ (x ∈ signs ∨ (b = true ∧ x = 45))) : sees s (cs (rp.wr c b) ++ rest) = false := by
  obtain ⟨x, l, e, hx⟩ := wr_head c h b
  rw [e]
  refine sees_ne _ _ _ fun hm => ?_
  obtain ⟨h1, h2⟩ := hs x hm
  rcases hx with rfl | ⟨h3, h4⟩
  · exact h1 rfl
  · rcases h2 with h2 | ⟨hb, h2⟩
    · exact h3 h2
    · exact h4 hb h2

theorem part_one (c : Nat) (h : c < 256) (rest : List Nat) (hr : sees [45] rest = false) : st.part (cs (rp.wr c true) ++ rest) = .ok (rng c c) rest := by
  unfold st.part
  rw [kind_wr c h]
  show (point outside (cs (rp.wr c true) ++ rest)).then _ = _
  have := point_wr c h true rest
  rw [if_pos rfl] at this
  rw [this]
  show (if sees [45] rest = true then _ else R.ok (rng c c) rest) = _
  rw [hr, if_neg (by decide)]
theorem part_two (a b : Nat) (ha : a < 256) (hb : b < 256) (hab : a ≤ b) (rest : List Nat) : st.part (cs (rp.wr a true) ++ 45 :: (cs (rp.wr b true) ++ rest)) = .ok (rng a b) rest := by
  unfold st.part
  rw [kind_wr a ha]
  show (point outside (cs (rp.wr a true) ++ 45 :: (cs (rp.wr b true) ++ rest))).then _ = _
  have h1 := point_wr a ha true (45 :: (cs (rp.wr b true) ++ rest))
  have h2 := point_wr b hb true rest
  rw [if_pos rfl] at h1 h2
  rw [h1]
  show (if sees [45] (45 :: (cs (rp.wr b true) ++ rest)) = true then (point outside (cs (rp.wr b true) ++ rest)).then (fun b' l2 => if b' < a then R.bad 60 (45 :: (cs (rp.wr b true) ++ rest)).tail else R.ok (rng a b') l2) else R.ok (rng a a) (45 :: (cs (rp.wr b true) ++ rest))) = _
  rw [sees_in _ _ _ (by decide), if_pos rfl, h2]
  show (if b < a then _ else R.ok (rng a b) rest) = _
  rw [if_neg (by omega)]

theorem has_rng (lo hi n : Nat) (h : n < 256) : has (rng lo hi) n = (decide (lo ≤ n) && decide (n ≤ hi)) := has_such _ n h
/-- those that stand one behind the other -/
theorem run_take (c : Nat) (l : List Nat) (m : Nat) : (m ∈ l.take (rp.rn c l)) ↔ c < m ∧ m ≤ c + rp.rn c l := by
  have hle := rp.rn_le c l
  rw [List.mem_take_iff_getElem]
  constructor
  · rintro ⟨i, hi, rfl⟩
    rw [rp.rn_at c l i (by omega) (by omega)]
    omega
  · rintro ⟨h1, h2⟩
    refine ⟨m - c - 1, by omega, ?_⟩
    rw [rp.rn_at c l _ (by omega) (by omega)]
    omega
theorem join_run (q : Q4) (hq : Fits q) (c : Nat) (l : List Nat) (k : Nat) (hk : k = rp.rn c l ∨ k = 0) : (l.drop k).foldl wth (jn q (rng c (c + k))) = (c :: l).foldl wth q := by
  refine ext (foldl_fits _ _ (fits_jn hq (fits_rng _ _))) (foldl_fits _ _ hq) fun n hn => ?_
  rw [foldl_has _ _ _ hn, foldl_has _ _ _ hn, has_jn _ _ _ hn, has_rng _ _ _ hn]
  have hm : (n ∈ c :: l) ↔ (c ≤ n ∧ n ≤ c + k) ∨ n ∈ l.drop k := by
    rcases hk with rfl | rfl
    · have h1 := run_take c l n
      have h2 : n ∈ l ↔ n ∈ l.take (rp.rn c l) ∨ n ∈ l.drop (rp.rn c l) := by rw [← List.mem_append, List.take_append_drop]
      rw [List.mem_cons, h2, h1]
      constructor
      · rintro (rfl | h | h)
        · exact .inl ⟨Nat.le_refl _, by omega⟩
        · exact .inl ⟨by omega, h.2⟩
        · exact .inr h
      · rintro (h | h)
        · by_cases e : n = c
          · exact .inl e
          · exact .inr (.inl ⟨by omega, h.2⟩)
        · exact .inr (.inr h)
    · rw [List.mem_cons, List.drop_zero, Nat.add_zero]
      constructor
      · rintro (rfl | h)
        · exact .inl ⟨Nat.le_refl _, Nat.le_refl _⟩
        · exact .inr h
      · rintro (h | h)
        · exact .inl (by omega)
        · exact .inr h
  by_cases h1 : n ∈ l.drop k
  · simp [h1, hm]
  · by_cases h2 : c ≤ n ∧ n ≤ c + k
    · simp [h1, hm, h2]
    · have : ¬ (n ∈ c :: l) := fun h => by rcases hm.1 h with h | h; exact h2 h; exact h1 h
      have h3 : (decide (c ≤ n) && decide (n ≤ c + k)) = false := by simp only [Bool.and_eq_false_iff, decide_eq_false_iff_not]; omega
      rw [h3, decide_eq_false h1, decide_eq_false this]
      simp

/-- what stands behind a part begins neither with a minus nor with the end -/
theorem prt_sees (f : Nat) (L : List Nat) (hL : ∀ x ∈ L, x < 256) (rest : List Nat) : sees [45] (cs (rp.prt f L) ++ 93 :: rest) = false := by
  cases f with
  | zero => rfl
  | succ f =>
    cases L with
    | nil => rfl
    | cons c l =>
      have hc := hL c (by simp)
      unfold rp.prt
      split
      · rw [List.append_assoc, cs_app, List.append_assoc]
        exact wr_sees c hc true _ _ (by simp)
      · rw [cs_app, List.append_assoc]
        exact wr_sees c hc true _ _ (by simp)
theorem prt_first (f c : Nat) (l : List Nat) (hL : ∀ x ∈ c :: l, x < 256) (rest : List Nat) : ∃ k, (k = rp.rn c l ∨ k = 0) ∧ (rp.prt f (l.drop k)).length < (rp.prt (f + 1) (c :: l)).length ∧
    sees [93] (cs (rp.prt (f + 1) (c :: l)) ++ 93 :: rest) = false ∧ sees [94] (cs (rp.prt (f + 1) (c :: l)) ++ 93 :: rest) = false ∧
    st.part (cs (rp.prt (f + 1) (c :: l)) ++ 93 :: rest) = .ok (rng c (c + k)) (cs (rp.prt f (l.drop k)) ++ 93 :: rest) := by
  have hc := hL c (by simp)
  have hw := (rp.wr_len c true).1
  by_cases h3 : 3 ≤ rp.rn c l
  · have hle := rp.rn_le c l
    have hb : c + rp.rn c l < 256 := by
      have h1 := rp.rn_at c l (rp.rn c l - 1) (by omega) (by omega)
      have h2 := hL _ (List.mem_cons_of_mem c (List.getElem_mem (by omega : rp.rn c l - 1 < l.length)))
      omega
    have e : cs (rp.prt (f + 1) (c :: l)) ++ 93 :: rest = cs (rp.wr c true) ++ 45 :: (cs (rp.wr (c + rp.rn c l) true) ++ (cs (rp.prt f (l.drop (rp.rn c l))) ++ 93 :: rest)) := by
      rw [rp.prt, if_pos h3]
      simp [cs]
    refine ⟨rp.rn c l, .inl rfl, ?_, ?_, ?_, ?_⟩
    · rw [rp.prt.eq_3, if_pos h3]; simp; omega
    · rw [e]; exact wr_sees c hc true _ _ (by decide)
    · rw [e]; exact wr_sees c hc true _ _ (by decide)
    · rw [e, part_two c _ hc hb (by omega)]
  · have e : cs (rp.prt (f + 1) (c :: l)) ++ 93 :: rest = cs (rp.wr c true) ++ (cs (rp.prt f l) ++ 93 :: rest) := by
      rw [rp.prt, if_neg h3]
      simp [cs]
    refine ⟨0, .inr rfl, ?_, ?_, ?_, ?_⟩
    · rw [rp.prt.eq_3, if_neg h3, List.drop_zero]; simp; omega
    · rw [e]; exact wr_sees c hc true _ _ (by decide)
    · rw [e]; exact wr_sees c hc true _ _ (by decide)
    · rw [e, part_one c hc _ (prt_sees f l (fun x hx => hL x (by simp [hx])) rest), List.drop_zero]
      rfl
theorem parts_read (f : Nat) : ∀ (L : List Nat) (n : Nat) (q : Q4) (rest : List Nat), L.length ≤ f → (∀ x ∈ L, x < 256) → Fits q → (rp.prt f L).length < n → parts n q (cs (rp.prt f L) ++ 93 :: rest) = .ok (L.foldl wth q) rest := by
  induction f with
  | zero =>
    intro L n q rest hf hL hq hn
    obtain rfl : L = [] := List.length_eq_zero_iff.1 (by omega)
    obtain ⟨m, rfl⟩ : ∃ m, n = m + 1 := ⟨n - 1, by omega⟩
    rfl
  | succ f ih =>
    intro L n q rest hf hL hq hn
    obtain ⟨m, rfl⟩ : ∃ m, n = m + 1 := ⟨n - 1, by omega⟩
    cases L with
    | nil => rfl
    | cons c l =>
      obtain ⟨k, hk, h1, h2, _, h4⟩ := prt_first f c l hL rest
      simp only [List.length_cons] at hf
      rw [parts, h2, if_neg (by decide), h4]
      show parts m (jn q (rng c (c + k))) (cs (rp.prt f (l.drop k)) ++ 93 :: rest) = _
      rw [ih (l.drop k) m _ rest (by simp; omega) (fun x hx => hL x (List.mem_cons_of_mem c (List.mem_of_mem_drop hx))) (fits_jn hq (fits_rng _ _)) (by omega), join_run q hq c l k hk]
theorem jn_none (q : Q4) (hq : Fits q) : jn none4 q = q := ext (fits_jn fits_none hq) hq fun n hn => by rw [has_jn _ _ _ hn, has_none, Bool.false_or]
/-- a class is read again -/
theorem cls_read (c : Nat) (l : List Nat) (hL : ∀ x ∈ c :: l, x < 256) (o : Bool) (rest : List Nat) : cls ((if o = true then [94] else []) ++ (cs (rp.parts (c :: l)) ++ 93 :: rest)) = .ok (if o = true then nt (ofl (c :: l)) else ofl (c :: l)) rest := by
  obtain ⟨k, hk, h1, h2, h3, h4⟩ := prt_first l.length c l hL rest
  have hp : rp.parts (c :: l) = rp.prt (l.length + 1) (c :: l) := rfl
  rw [hp]
  have hj : (l.drop k).foldl wth (rng c (c + k)) = ofl (c :: l) := by
    have := join_run none4 fits_none c l k hk
    rw [jn_none _ (fits_rng _ _)] at this
    exact this
  have hr := parts_read l.length (l.drop k) ((cs (rp.prt l.length (l.drop k)) ++ 93 :: rest).length + 1) (rng c (c + k)) rest (by simp) (fun x hx => hL x (List.mem_cons_of_mem c (List.mem_of_mem_drop hx))) (fits_rng _ _) (by simp [cs_len]; omega)
  rw [hj] at hr
  cases o
  · rw [if_neg (by decide), if_neg (by decide), List.nil_append]
    unfold cls
    simp only [h3, Bool.false_eq_true, if_false, h4]
    show ((parts ((cs (rp.prt l.length (l.drop k)) ++ 93 :: rest).length + 1) (rng c (c + k)) (cs (rp.prt l.length (l.drop k)) ++ 93 :: rest)).then fun q l2 => R.ok q l2) = _
    rw [hr]
    rfl
  · rw [if_pos rfl, if_pos rfl]
    unfold cls
    have h5 : sees [94] ([94] ++ (cs (rp.prt (l.length + 1) (c :: l)) ++ 93 :: rest)) = true := sees_in _ _ _ (by decide)
    simp only [h5, if_true]
    show ((st.part (cs (rp.prt (l.length + 1) (c :: l)) ++ 93 :: rest)).then fun q l1 => (parts (l1.length + 1) q l1).then fun q l2 => R.ok (nt q) l2) = _
    rw [h4]
    show ((parts ((cs (rp.prt l.length (l.drop k)) ++ 93 :: rest).length + 1) (rng c (c + k)) (cs (rp.prt l.length (l.drop k)) ++ 93 :: rest)).then fun q l2 => R.ok (nt q) l2) = _
    rw [hr]
    rfl

theorem rng_one (c : Nat) : rng c c = ofl [c] := ext (fits_rng _ _) (fits_ofl _) fun n hn => by
  rw [has_rng _ _ _ hn, has_ofl _ _ hn]
  by_cases h : n = c
  · subst h; simp
  · have : ¬ (c ≤ n ∧ n ≤ c) := by omega
    have h3 : (decide (c ≤ n) && decide (n ≤ c)) = false := by simp only [Bool.and_eq_false_iff, decide_eq_false_iff_not]; omega
    rw [h3, decide_eq_false (by simpa using h)]
theorem every_L : rp.everyL = 91 :: rp.parts (List.range 256) ++ [93] := by decide +kernel
theorem nothing_L : rp.nothingL = 91 :: 94 :: rp.parts (List.range 256) ++ [93] := by decide +kernel
/-- a set is read again -/
theorem single_set (q : Q4) (hq : Fits q) (rest : List Nat) : single (cs (rp.setT q) ++ rest) = .ok q rest := by
  have hcl : ∀ (L : List Nat) (o : Bool), L ≠ [] → (∀ x ∈ L, x < 256) → single (91 :: ((if o = true then [94] else []) ++ (cs (rp.parts L) ++ 93 :: rest))) = .ok (if o = true then nt (ofl L) else ofl L) rest := by
    intro L o hne hL
    cases L with
    | nil => exact absurd rfl hne
    | cons c l =>
      unfold single
      rw [sees_in _ _ _ (by decide), if_pos rfl]
      exact cls_read c l hL o rest
  have hmq : ∀ q : Q4, ∀ x ∈ mem q, x < 256 := fun q x hx => mem_lt hx
  unfold rp.setT
  by_cases h1 : cnt q = 1
  · rw [if_pos h1]
    obtain ⟨c, hc⟩ : ∃ c, mem q = [c] := List.length_eq_one_iff.1 h1
    have hlt := hmq q c (by rw [hc]; simp)
    have hg : (mem q).getD 0 0 = c := by rw [hc]; rfl
    rw [hg]
    have hqo : ofl [c] = q := by rw [← hc]; exact ofl_mem hq
    unfold single
    rw [wr_sees c hlt false rest [91] (by decide), if_neg (by decide), wr_sees c hlt false rest [46] (by decide), if_neg (by decide), kind_wr c hlt]
    have hp := point_wr c hlt false rest
    rw [if_neg (by decide)] at hp
    show (point signs (cs (rp.wr c false) ++ rest)).then _ = _
    rw [hp]
    show R.ok (rng c c) rest = _
    rw [rng_one, hqo]
  · rw [if_neg h1]
    by_cases h2 : rp.eq4 q rp.dotQ = true
    · rw [if_pos h2]
      rw [(rp.eq4_iff _ _).1 h2]
      rfl
    · rw [if_neg h2]
      by_cases h3 : cnt q = 0
      · rw [if_pos h3, nothing_L]
        have := hcl (List.range 256) true (fun e => by have := congrArg List.length e; simp at this) (fun x hx => List.mem_range.1 hx)
        rw [if_pos rfl, if_pos rfl] at this
        have e : cs (91 :: 94 :: rp.parts (List.range 256) ++ [93]) ++ rest = 91 :: ([94] ++ (cs (rp.parts (List.range 256)) ++ 93 :: rest)) := by simp [cs]
        rw [e, this]
        refine congrArg (fun q => R.ok q rest) (ext (fits_nt _) hq fun n hn => ?_)
        rw [has_nt (fits_ofl _) n hn, has_ofl _ n hn, decide_eq_true (List.mem_range.2 hn)]
        have hm : mem q = [] := List.length_eq_zero_iff.1 h3
        cases hx : has q n with
        | false => rfl
        | true =>
          have : n ∈ mem q := by unfold mem; rw [List.mem_filter]; exact ⟨List.mem_range.2 hn, hx⟩
          rw [hm] at this
          simp at this
      · rw [if_neg h3]
        by_cases h4 : cnt q = 256
        · rw [if_pos h4, every_L]
          have := hcl (List.range 256) false (fun e => by have := congrArg List.length e; simp at this) (fun x hx => List.mem_range.1 hx)
          rw [if_neg (by decide), if_neg (by decide), List.nil_append] at this
          have e : cs (91 :: rp.parts (List.range 256) ++ [93]) ++ rest = 91 :: (cs (rp.parts (List.range 256)) ++ 93 :: rest) := by simp [cs]
          rw [e, this]
          refine congrArg (fun q => R.ok q rest) (ext (fits_ofl _) hq fun n hn => ?_)
          rw [has_ofl _ n hn, decide_eq_true (List.mem_range.2 hn)]
          have hm : ∀ x ∈ List.range 256, has q x = true := by
            have : ((List.range 256).filter (has q)).length = (List.range 256).length := by show cnt q = _; rw [h4]; simp
            exact List.length_filter_eq_length_iff.1 this
          exact (hm n (List.mem_range.2 hn)).symm
        · rw [if_neg h4]
          have hcn := cnt_nt hq
          have hcl2 := cnt_le q
          by_cases h5 : 128 < cnt q
          · rw [if_pos h5]
            have := hcl (mem (nt q)) true (fun e => by have : cnt (nt q) = 0 := by unfold cnt; rw [e]; rfl
                                                       omega) (hmq _)
            rw [if_pos rfl, if_pos rfl, ofl_mem (fits_nt q), rule5 hq] at this
            rw [← this]
            simp [cs]
          · rw [if_neg h5]
            have := hcl (mem q) false (fun e => h3 (by unfold cnt; rw [e]; rfl)) (hmq _)
            rw [if_neg (by decide), if_neg (by decide), ofl_mem hq, List.nil_append] at this
            rw [← this]
            simp [cs]
end Go.Proofs.YtfclidcfhadohaaDoor.bk

namespace Go.Proofs.YtfclidcfhadohaaDoor.bk
open Go.Proofs.YtfclidcfhadohaaDoor.st
set_option linter.unusedVariables false

/-! times -/
theorem dig_in : ∀ n : Fin 10, 48 + n.val ∈ digits := by decide
theorem cs_dec (n : Nat) (h : n ≤ 20) : cs (rp.dec (n : Int)) = if n < 10 then [48 + n] else [48 + n / 10, 48 + n % 10] := by
  unfold rp.dec
  rw [Int.toNat_natCast]
  by_cases h1 : n < 10
  · rw [Lib.decDigits_one h1, if_pos h1, cs_cons, nat_of _ (by omega)]; rfl
  · rw [Lib.decDigits_two h1 (by omega), if_neg h1, cs_cons, cs_cons, nat_of _ (by omega), nat_of _ (by omega)]; rfl
theorem num_dec (least n : Nat) (h : n ≤ 20) (hl : least ≤ n) (r : List Nat) (hr : sees digits r = false) : num least (cs (rp.dec (n : Int)) ++ r) = .ok n r := by
  rw [cs_dec n h]
  by_cases h1 : n < 10
  · rw [if_pos h1]
    have hd := dig_in ⟨n, h1⟩
    show num least ((48 + n) :: r) = _
    unfold num oneOf
    rw [sees_in _ _ _ hd, if_pos rfl]
    simp only [st.step, R.then, hr, Bool.false_eq_true, if_false]
    rw [show 48 + n - 48 = n from by omega, if_neg (by omega)]
  · rw [if_neg h1]
    have hd := dig_in ⟨n / 10, by omega⟩
    have hd2 := dig_in ⟨n % 10, by omega⟩
    show num least ((48 + n / 10) :: (48 + n % 10) :: r) = _
    unfold num oneOf
    rw [sees_in _ _ _ hd, if_pos rfl]
    simp only [st.step, R.then, sees_in _ _ _ hd2, if_true, List.headD_cons, List.tail_cons]
    rw [show 10 * (48 + n / 10 - 48) + (48 + n % 10 - 48) = n from by omega, if_neg (by omega)]
theorem bounds_up (a : Nat) (ha : a ≤ 20) (r : List Nat) : bounds (cs (rp.dec (a : Int)) ++ 44 :: 125 :: r) = .ok ((a : Int), -1) r := by
  unfold bounds
  rw [num_dec 0 a ha (by omega) _ (sees_ne _ _ _ (by decide))]
  rfl
theorem bounds_one (a : Nat) (ha : a ≤ 20) (r : List Nat) : bounds (cs (rp.dec (a : Int)) ++ 125 :: r) = .ok ((a : Int), (a : Int)) r := by
  unfold bounds
  rw [num_dec 0 a ha (by omega) _ (sees_ne _ _ _ (by decide))]
  rfl
theorem dec_head (b : Nat) (hb : b ≤ 20) (r : List Nat) : sees digits (cs (rp.dec (b : Int)) ++ r) = true := by
  rw [cs_dec b hb]
  split
  · exact sees_in _ _ _ (dig_in ⟨b, by omega⟩)
  · exact sees_in _ _ _ (dig_in ⟨b / 10, by omega⟩)
theorem bounds_two (a b : Nat) (hab : a ≤ b) (hb : b ≤ 20) (r : List Nat) : bounds (cs (rp.dec (a : Int)) ++ 44 :: (cs (rp.dec (b : Int)) ++ 125 :: r)) = .ok ((a : Int), (b : Int)) r := by
  unfold bounds
  rw [num_dec 0 a (by omega) (by omega) _ (sees_ne _ _ _ (by decide))]
  show (if sees digits (cs (rp.dec (b : Int)) ++ 125 :: r) = true then (num a (cs (rp.dec (b : Int)) ++ 125 :: r)).then (fun b l2 => (oneOf [125] l2).then fun _ l3 => R.ok ((a : Int), (b : Int)) l3) else _) = _
  rw [dec_head b hb, if_pos rfl, num_dec a b hb hab _ (sees_ne _ _ _ (by decide))]
  rfl
theorem times_read (mn mx : Int) (h : timesOk mn mx = true) (r : List Nat) : times (cs (rp.timesT mn mx) ++ r) = .ok (mn, mx) r ∧ sees [42, 43, 63, 123] (cs (rp.timesT mn mx) ++ r) = true ∧ rp.timesT mn mx ≠ [] := by
  unfold timesOk at h
  simp only [Bool.and_eq_true, Bool.or_eq_true, decide_eq_true_eq] at h
  obtain ⟨⟨h0, h20⟩, h3⟩ := h
  obtain ⟨a, rfl⟩ := Int.eq_ofNat_of_zero_le h0
  unfold rp.timesT
  by_cases h1 : (a : Int) = 0 ∧ mx = -1
  · rw [if_pos h1, h1.1, h1.2]; exact ⟨rfl, rfl, by simp⟩
  rw [if_neg h1]
  by_cases h2 : (a : Int) = 1 ∧ mx = -1
  · rw [if_pos h2, h2.1, h2.2]; exact ⟨rfl, rfl, by simp⟩
  rw [if_neg h2]
  by_cases h4 : (a : Int) = 0 ∧ mx = 1
  · rw [if_pos h4, h4.1, h4.2]; exact ⟨rfl, rfl, by simp⟩
  rw [if_neg h4]
  by_cases h5 : mx = -1
  · rw [if_pos h5]
    have e : cs (123 :: rp.dec (a : Int) ++ [44, 125]) ++ r = 123 :: (cs (rp.dec (a : Int)) ++ 44 :: 125 :: r) := by simp [cs]
    rw [e]
    refine ⟨?_, sees_in _ _ _ (by decide), by simp⟩
    show bounds (cs (rp.dec (a : Int)) ++ 44 :: 125 :: r) = _
    rw [bounds_up a (by omega), h5]
  rw [if_neg h5]
  have h6 := (h3.resolve_left h5).1
  by_cases h7 : mx = (a : Int)
  · rw [if_pos h7]
    have e : cs (123 :: rp.dec (a : Int) ++ [125]) ++ r = 123 :: (cs (rp.dec (a : Int)) ++ 125 :: r) := by simp [cs]
    rw [e]
    refine ⟨?_, sees_in _ _ _ (by decide), by simp⟩
    show bounds (cs (rp.dec (a : Int)) ++ 125 :: r) = _
    rw [bounds_one a (by omega), h7]
  rw [if_neg h7]
  obtain ⟨b, rfl⟩ := Int.eq_ofNat_of_zero_le (show 0 ≤ mx by omega)
  have e : cs (123 :: rp.dec (a : Int) ++ 44 :: rp.dec (b : Int) ++ [125]) ++ r = 123 :: (cs (rp.dec (a : Int)) ++ 44 :: (cs (rp.dec (b : Int)) ++ 125 :: r)) := by simp [cs]
  rw [e]
  refine ⟨?_, sees_in _ _ _ (by decide), by simp⟩
  show bounds (cs (rp.dec (a : Int)) ++ 44 :: (cs (rp.dec (b : Int)) ++ 125 :: r)) = _
  rw [bounds_two a b (by omega) (by omega)]

/-! one tree's node -/
theorem none_of (q : Q4) (h : noSet q = true) : q = none4 := by
  cases q
  simp only [noSet, Bool.and_eq_true, decide_eq_true_eq] at h
  obtain ⟨⟨⟨h1, h2⟩, h3⟩, h4⟩ := h
  simp only [none4, Q4.mk.injEq]
  exact ⟨h1, h2, h3, h4⟩
theorem any_not (k : Int) (l : List Tr) (h : anyKind k l = false) : ∀ t ∈ l, t.kind ≠ k := by
  intro t ht e
  unfold anyKind at h
  rw [List.any_eq_false] at h
  exact h t ht (by simpa using e)
theorem goods_mem : ∀ (l : List Tr), goods l = true → ∀ t ∈ l, t.good = true
  | [], _, _, h => by simp at h
  | x :: l, hg, t, h => by
    simp only [goods, Bool.and_eq_true] at hg
    rcases List.mem_cons.1 h with rfl | h
    · exact hg.1
    · exact goods_mem l hg.2 t h
theorem sanes_mem : ∀ (l : List Tr), sanes l → ∀ t ∈ l, t.sane
  | [], _, _, h => by simp at h
  | x :: l, hg, t, h => by
    simp only [sanes] at hg
    rcases List.mem_cons.1 h with rfl | h
    · exact hg.1
    · exact sanes_mem l hg.2 t h
theorem depths_mem : ∀ (l : List Tr), ∀ t ∈ l, t.depth ≤ depths l
  | [], _, h => by simp at h
  | x :: l, t, h => by
    simp only [depths]
    rcases List.mem_cons.1 h with rfl | h
    · omega
    · have := depths_mem l t h; omega
structure Ok (t : Tr) : Prop where
  good : t.good = true
  sane : t.sane
theorem Ok.node {t : Tr} (h : Ok t) : okNode t = true := by have := h.good; rw [Tr.good_eq] at this; simp only [Bool.and_eq_true] at this; exact this.1
theorem Ok.kid {t x : Tr} (h : Ok t) (hx : x ∈ t.kids) : Ok x ∧ x.depth + 1 ≤ t.depth := by
  have hg := h.good
  rw [Tr.good_eq] at hg
  simp only [Bool.and_eq_true] at hg
  refine ⟨⟨goods_mem _ hg.2 x hx, ?_⟩, ?_⟩
  · have hs := h.sane
    cases t with
    | node k q mn mx l =>
      simp only [Tr.sane] at hs
      exact sanes_mem l hs.2.2.2.2 x hx
  · have := depths_mem _ x hx
    rw [Tr.depth_eq t]
    omega
theorem Ok.fits {t : Tr} (h : Ok t) : Fits t.set := by
  have hs := h.sane
  cases t with
  | node k q mn mx l =>
    simp only [Tr.sane] at hs
    exact hs.1
theorem Ok.kinds {t : Tr} (h : Ok t) : t.kind = 1 ∨ t.kind = 2 ∨ t.kind = 3 ∨ t.kind = 4 := rp.ok_kind h.node
theorem Ok.one {t : Tr} (h : Ok t) (hk : t.kind = 1) : t = .node 1 t.set 0 0 [] := by
  have hn := h.node
  unfold okNode at hn
  rw [if_pos hk] at hn
  simp only [Bool.and_eq_true, decide_eq_true_eq] at hn
  have e := Tr.eta t
  rw [hk, hn.1.1, hn.1.2, List.length_eq_zero_iff.1 hn.2] at e
  exact e
theorem Ok.two {t : Tr} (h : Ok t) (hk : t.kind = 2) : t = .node 2 none4 0 0 t.kids ∧ t.kids.length ≠ 1 ∧ ∀ x ∈ t.kids, x.kind ≠ 2 := by
  have hn := h.node
  unfold okNode at hn
  rw [if_neg (by omega), if_pos hk] at hn
  simp only [Bool.and_eq_true, decide_eq_true_eq, Bool.not_eq_true', decide_eq_false_iff_not] at hn
  have e := Tr.eta t
  rw [hk, hn.1.1.1.2, hn.1.1.2, none_of _ hn.1.1.1.1] at e
  exact ⟨e, hn.1.2, any_not _ _ hn.2⟩
theorem Ok.three {t : Tr} (h : Ok t) (hk : t.kind = 3) : t = .node 3 none4 0 0 t.kids ∧ 2 ≤ t.kids.length ∧ ∀ x ∈ t.kids, x.kind ≠ 3 := by
  have hn := h.node
  unfold okNode at hn
  rw [if_neg (by omega), if_neg (by omega), if_pos hk] at hn
  simp only [Bool.and_eq_true, decide_eq_true_eq, Bool.not_eq_true'] at hn
  have e := Tr.eta t
  rw [hk, hn.1.1.1.2, hn.1.1.2, none_of _ hn.1.1.1.1] at e
  exact ⟨e, hn.1.2, any_not _ _ hn.2⟩
theorem Ok.four {t : Tr} (h : Ok t) (hk : t.kind = 4) : ∃ x, t = .node 4 none4 t.min t.max [x] ∧ t.kids = [x] ∧ timesOk t.min t.max = true := by
  have hn := h.node
  unfold okNode at hn
  rw [if_neg (by omega), if_neg (by omega), if_neg (by omega), if_pos hk] at hn
  simp only [Bool.and_eq_true, decide_eq_true_eq] at hn
  obtain ⟨x, hx⟩ := List.length_eq_one_iff.1 hn.2
  have e := Tr.eta t
  rw [hk, hx, none_of _ hn.1.1] at e
  exact ⟨x, e, hx, hn.1.2⟩
theorem again_four (x : Tr) (mn mx : Int) (h : timesOk mn mx = true) : again x (mn, mx) = .node 4 none4 mn mx [x] := by
  unfold again
  rw [if_neg]
  intro hc
  unfold timesOk at h
  simp only at hc
  rw [hc.1, hc.2] at h
  revert h
  decide

/-! how what is written begins -/
theorem set_sees (q : Q4) (r s : List Nat) (hs : ∀ x ∈ s, x ∈ signs ∧ x ≠ 92 ∧ x ≠ 46 ∧ x ≠ 91) : sees s (cs (rp.setT q) ++ r) = false := by
  unfold rp.setT
  by_cases h1 : cnt q = 1
  · rw [if_pos h1]
    obtain ⟨c, hc⟩ : ∃ c, mem q = [c] := List.length_eq_one_iff.1 h1
    have hlt : c < 256 := mem_lt (q := q) (by rw [hc]; simp)
    have hg : (mem q).getD 0 0 = c := by rw [hc]; rfl
    rw [hg]
    exact wr_sees c hlt false r s fun x hx => ⟨(hs x hx).2.1, .inl (hs x hx).1⟩
  · rw [if_neg h1]
    split
    · exact sees_ne _ _ _ fun h => (hs _ h).2.2.1 rfl
    · repeat' split
      all_goals exact sees_ne _ _ _ fun h => (hs _ h).2.2.2 rfl
/-- an atom's text -/
def at' (t : Tr) : List UInt8 := rp.par (!decide (t.kind = 1)) (rp.txt t)
/-- an item's text -/
def it (t : Tr) : List UInt8 := rp.par (decide (t.kind = 3)) (rp.txt t)
theorem txt_one {t : Tr} (hk : t.kind = 1) : rp.txt t = rp.setT t.set := by rw [rp.txt_eq, if_pos hk]
theorem txt_four {t x : Tr} (hk : t.kind = 4) (hx : t.kids = [x]) : rp.txt t = at' x ++ rp.timesT t.min t.max := by
  rw [rp.txt_eq, if_neg (by omega), if_pos hk, hx, rp.reps]
  rfl
theorem at_sees (t : Tr) (r s : List Nat) (hs : ∀ x ∈ s, x ∈ signs ∧ x ≠ 92 ∧ x ≠ 46 ∧ x ≠ 91 ∧ x ≠ 40) : sees s (cs (at' t) ++ r) = false := by
  unfold at'
  by_cases hk : t.kind = 1
  · rw [decide_eq_true hk, txt_one hk]
    exact set_sees _ _ _ fun x hx => ⟨(hs x hx).1, (hs x hx).2.1, (hs x hx).2.2.1, (hs x hx).2.2.2.1⟩
  · rw [decide_eq_false hk]
    exact sees_ne _ _ _ fun h => (hs _ h).2.2.2.2 rfl
theorem it_sees {t : Tr} (ht : Ok t) (hk : t.kind ≠ 2) (r s : List Nat) (hs : ∀ x ∈ s, x ∈ signs ∧ x ≠ 92 ∧ x ≠ 46 ∧ x ≠ 91 ∧ x ≠ 40) : sees s (cs (it t) ++ r) = false := by
  unfold it
  rcases ht.kinds with h | h | h | h
  · rw [decide_eq_false (by omega)]
    show sees s (cs (rp.txt t) ++ r) = false
    rw [txt_one h]
    exact set_sees _ _ _ fun x hx => ⟨(hs x hx).1, (hs x hx).2.1, (hs x hx).2.2.1, (hs x hx).2.2.2.1⟩
  · exact absurd h hk
  · rw [decide_eq_true h]
    exact sees_ne _ _ _ fun hm => (hs _ hm).2.2.2.2 rfl
  · rw [decide_eq_false (by omega)]
    show sees s (cs (rp.txt t) ++ r) = false
    obtain ⟨x, _, hx, _⟩ := ht.four h
    rw [txt_four h hx, cs_app, List.append_assoc]
    exact at_sees x _ _ hs
theorem sees_nil (s : List Nat) : sees s [] = false := rfl
theorem it_some {t : Tr} (ht : Ok t) (hk : t.kind ≠ 2) : it t ≠ [] := by
  unfold it
  rcases ht.kinds with h | h | h | h
  · rw [decide_eq_false (by omega)]
    show rp.txt t ≠ []
    rw [txt_one h]
    unfold rp.setT
    split
    · intro e; have := (rp.wr_len ((mem t.set).getD 0 0) false).1; rw [e] at this; simp at this
    · repeat' split
      all_goals simp [rp.nothingL, rp.everyL]
  · exact absurd h hk
  · rw [decide_eq_true h]; simp [rp.par]
  · rw [decide_eq_false (by omega)]
    show rp.txt t ≠ []
    obtain ⟨x, _, hx, hto⟩ := ht.four h
    rw [txt_four h hx]
    simp [(times_read _ _ hto []).2.2]
end Go.Proofs.YtfclidcfhadohaaDoor.bk

namespace Go.Proofs.YtfclidcfhadohaaDoor.bk
open Go.Proofs.YtfclidcfhadohaaDoor.st
set_option linter.unusedVariables false

def repS : List Nat := [42, 43, 63, 123]
def endS : List Nat := [124, 41]
theorem reps_stop (n : Nat) (t : Tr) (l : List Nat) (h : sees repS l = false) : st.rpts (n + 1) t l = .ok t l := by
  rw [st.rpts]
  unfold repS at h
  rw [h]
  rfl
/-- groups can be read, of trees that are so deep at most -/
def Grp (G : List Nat → R Tr) (D : Nat) : Prop := ∀ t, Ok t → t.depth ≤ D → ∀ rest, G (cs (rp.par true (rp.txt t)) ++ rest) = .ok t rest

theorem atom_read {G : List Nat → R Tr} {D : Nat} (hG : Grp G D) (t : Tr) (ht : Ok t) (hd : t.kind = 1 ∨ t.depth ≤ D) (rest : List Nat) : atom G (cs (at' t) ++ rest) = .ok t rest := by
  unfold atom at'
  by_cases hk : t.kind = 1
  · rw [decide_eq_true hk]
    show (if sees [40] (cs (rp.txt t) ++ rest) = true then _ else (single (cs (rp.txt t) ++ rest)).then fun q l1 => R.ok (Tr.node 1 q 0 0 []) l1) = _
    rw [txt_one hk, set_sees t.set rest [40] (by decide), if_neg (by decide), single_set _ ht.fits]
    show R.ok (Tr.node 1 t.set 0 0 []) rest = _
    rw [← ht.one hk]
  · rw [decide_eq_false hk]
    show (if sees [40] (cs (rp.par true (rp.txt t)) ++ rest) = true then G (cs (rp.par true (rp.txt t)) ++ rest) else _) = _
    have h40 : sees [40] (cs (rp.par true (rp.txt t)) ++ rest) = true := sees_in _ _ _ (by decide)
    rw [h40, if_pos rfl, hG t ht (hd.resolve_left hk)]
theorem item_read {G : List Nat → R Tr} {D : Nat} (hG : Grp G D) (t : Tr) (ht : Ok t) (hk2 : t.kind ≠ 2) (hd : t.depth ≤ D ∨ (t.kind ≠ 3 ∧ t.depth ≤ D + 1)) (rest : List Nat) (hr : sees repS rest = false) : st.item G (cs (it t) ++ rest) = .ok t rest := by
  unfold st.item
  rcases ht.kinds with h | h | h | h
  · have e : it t = at' t := by unfold it at'; rw [decide_eq_true h, decide_eq_false (by omega)]; rfl
    rw [e, atom_read hG t ht (.inl h)]
    exact reps_stop _ _ _ hr
  · exact absurd h hk2
  · have e : it t = at' t := by unfold it at'; rw [decide_eq_true h, decide_eq_false (by omega)]; rfl
    rw [e, atom_read hG t ht (.inr (hd.resolve_right fun hx => hx.1 h))]
    exact reps_stop _ _ _ hr
  · obtain ⟨x, e4, hx, hto⟩ := ht.four h
    have hxo := ht.kid (x := x) (by rw [hx]; simp)
    have e : it t = at' x ++ rp.timesT t.min t.max := by unfold it; rw [decide_eq_false (by omega)]; exact txt_four h hx
    obtain ⟨h1, h2, h3⟩ := times_read t.min t.max hto rest
    rw [e, cs_app, List.append_assoc, atom_read hG x hxo.1 (.inr (by omega))]
    show st.rpts ((cs (rp.timesT t.min t.max) ++ rest).length + 1) x (cs (rp.timesT t.min t.max) ++ rest) = _
    obtain ⟨m, hm⟩ : ∃ m, (cs (rp.timesT t.min t.max) ++ rest).length = m + 1 := ⟨(cs (rp.timesT t.min t.max) ++ rest).length - 1, by
      have : 0 < (rp.timesT t.min t.max).length := List.length_pos_iff.2 h3
      rw [List.length_append, cs_len]
      omega⟩
    rw [hm, st.rpts, h2, if_pos rfl, h1]
    show st.rpts (m + 1) (again x (t.min, t.max)) rest = _
    rw [again_four x _ _ hto, ← e4]
    exact reps_stop _ _ _ hr

/-- the items one behind the other -/
def its : List Tr → List UInt8
  | [] => []
  | t :: l => it t ++ its l
theorem txts_two (l : List Tr) (f : Bool) : rp.txts 2 f l = its l := by
  induction l generalizing f with
  | nil => rfl
  | cons t l ih =>
    rw [rp.txts, ih, if_neg (by omega)]
    rfl
def AtEnd (rest : List Nat) : Prop := rest = [] ∨ sees endS rest = true
theorem end_rep {rest : List Nat} (h : AtEnd rest) : sees repS rest = false := by
  cases rest with
  | nil => rfl
  | cons c l =>
    rcases h with h | h
    · simp at h
    · unfold sees at h ⊢
      simp only [endS, repS, decide_eq_true_eq, decide_eq_false_iff_not, List.mem_cons, List.not_mem_nil, or_false] at *
      omega
theorem items_read {G : List Nat → R Tr} {D : Nat} (hG : Grp G D) : ∀ (L ks : List Tr) (n : Nat) (rest : List Nat), (∀ t ∈ L, Ok t ∧ t.kind ≠ 2 ∧ (t.depth ≤ D ∨ (t.kind ≠ 3 ∧ t.depth ≤ D + 1))) → AtEnd rest → (its L).length < n → items G n ks (cs (its L) ++ rest) = .ok (grown 2 (ks ++ L)) rest
  | [], ks, n, rest, hL, he, hn => by
    obtain ⟨m, rfl⟩ : ∃ m, n = m + 1 := ⟨n - 1, by omega⟩
    rw [items]
    have : (cs (its []) ++ rest = [] ∨ sees [124, 41] (cs (its []) ++ rest) = true) := he
    rw [if_pos this, List.append_nil]
    rfl
  | t :: l, ks, n, rest, hL, he, hn => by
    obtain ⟨m, rfl⟩ : ∃ m, n = m + 1 := ⟨n - 1, by omega⟩
    obtain ⟨ht, hk, hd⟩ := hL t (by simp)
    have hne : 0 < (it t).length := List.length_pos_iff.2 (it_some ht hk)
    have e : cs (its (t :: l)) ++ rest = cs (it t) ++ (cs (its l) ++ rest) := by rw [its, cs_app, List.append_assoc]
    have hno : ¬ (cs (it t) ++ (cs (its l) ++ rest) = [] ∨ sees [124, 41] (cs (it t) ++ (cs (its l) ++ rest)) = true) := by
      rintro (h | h)
      · have := congrArg List.length h
        simp only [List.length_append, cs_len, List.length_nil] at this
        omega
      · rw [it_sees ht hk _ _ (by decide)] at h
        cases h
    have hr : sees repS (cs (its l) ++ rest) = false := by
      cases l with
      | nil => exact end_rep he
      | cons x l =>
        obtain ⟨hx, hxk, _⟩ := hL x (by simp)
        rw [its, cs_app, List.append_assoc]
        exact it_sees hx hxk _ _ (by decide)
    simp only [its, List.length_append] at hn
    rw [e, items, if_neg hno, item_read hG t ht hk hd _ hr]
    show items G m (laid ks t 2) (cs (its l) ++ rest) = _
    have hl : laid ks t 2 = ks ++ [t] := by unfold laid; rw [if_neg hk]
    rw [hl, items_read hG l (ks ++ [t]) m rest (fun x hx => hL x (by simp [hx])) he (by omega), List.append_assoc]
    rfl
theorem cat_read {G : List Nat → R Tr} {D : Nat} (hG : Grp G D) (t : Tr) (ht : Ok t) (hk : t.kind ≠ 3) (hd : t.depth ≤ D + 1) (rest : List Nat) (he : AtEnd rest) : cat G (cs (rp.txt t) ++ rest) = .ok t rest := by
  unfold cat
  by_cases h2 : t.kind = 2
  · obtain ⟨e, h1, h3⟩ := ht.two h2
    have et : rp.txt t = its t.kids := by rw [rp.txt_eq, if_neg (by omega), if_neg (by omega), h2, txts_two]
    rw [et, items_read hG t.kids [] _ rest (fun x hx => ⟨(ht.kid hx).1, h3 x hx, .inl (by have := (ht.kid hx).2; omega)⟩) he (by rw [List.length_append, cs_len]; omega), List.nil_append]
    unfold grown
    rw [if_neg h1, ← e]
  · have et : rp.txt t = its [t] := by
      show _ = it t ++ []
      unfold it
      rw [decide_eq_false hk, List.append_nil]
      rfl
    rw [et, items_read hG [t] [] _ rest (fun x hx => by obtain rfl := List.mem_singleton.1 hx; exact ⟨ht, h2, .inr ⟨hk, hd⟩⟩) he (by rw [List.length_append, cs_len]; omega)]
    rfl
/-- ways one behind the other, each behind a bar -/
def ways : List Tr → List UInt8
  | [] => []
  | t :: l => 124 :: rp.txt t ++ ways l
theorem txts_three (l : List Tr) : rp.txts 3 false l = ways l := by
  induction l with
  | nil => rfl
  | cons t l ih =>
    rw [rp.txts, ih, if_pos ⟨rfl, rfl⟩]
    rfl
def AtClose (rest : List Nat) : Prop := rest = [] ∨ ∃ l, rest = 41 :: l
theorem close_end {rest : List Nat} (h : AtClose rest) : AtEnd rest := by
  rcases h with rfl | ⟨l, rfl⟩
  · exact .inl rfl
  · exact .inr (sees_in _ _ _ (by decide))
theorem ways_end (l : List Tr) {rest : List Nat} (h : AtClose rest) : AtEnd (cs (ways l) ++ rest) := by
  cases l with
  | nil => exact close_end h
  | cons t l => exact .inr (sees_in _ _ _ (by decide))
theorem close_bar {rest : List Nat} (h : AtClose rest) : sees [124] rest = false := by
  rcases h with rfl | ⟨l, rfl⟩
  · rfl
  · exact sees_ne _ _ _ (by decide)
theorem alts_read {G : List Nat → R Tr} {D : Nat} (hG : Grp G D) : ∀ (L ks : List Tr) (n : Nat) (rest : List Nat), (∀ t ∈ L, Ok t ∧ t.kind ≠ 3 ∧ t.depth ≤ D + 1) → AtClose rest → (ways L).length < n → alts G n ks (cs (ways L) ++ rest) = .ok (grown 3 (ks ++ L)) rest
  | [], ks, n, rest, hL, he, hn => by
    obtain ⟨m, rfl⟩ : ∃ m, n = m + 1 := ⟨n - 1, by omega⟩
    rw [alts]
    show (if sees [124] rest = true then _ else R.ok (grown 3 ks) rest) = _
    rw [close_bar he, if_neg (by decide), List.append_nil]
  | t :: l, ks, n, rest, hL, he, hn => by
    obtain ⟨m, rfl⟩ : ∃ m, n = m + 1 := ⟨n - 1, by omega⟩
    obtain ⟨ht, hk, hd⟩ := hL t (by simp)
    have e : cs (ways (t :: l)) ++ rest = 124 :: (cs (rp.txt t) ++ (cs (ways l) ++ rest)) := by simp [ways, cs]
    simp only [ways, List.length_append, List.length_cons] at hn
    rw [e, alts, sees_in _ _ _ (by decide), if_pos rfl]
    show (cat G (cs (rp.txt t) ++ (cs (ways l) ++ rest))).then _ = _
    rw [cat_read hG t ht hk hd _ (ways_end l he)]
    show alts G m (laid ks t 3) (cs (ways l) ++ rest) = _
    have hl : laid ks t 3 = ks ++ [t] := by unfold laid; rw [if_neg hk]
    rw [hl, alts_read hG l (ks ++ [t]) m rest (fun x hx => hL x (by simp [hx])) he (by omega), List.append_assoc]
    rfl
theorem alt_read {G : List Nat → R Tr} {D : Nat} (hG : Grp G D) (t : Tr) (ht : Ok t) (hd : t.depth ≤ D + 1) (rest : List Nat) (he : AtClose rest) : altOf G (cs (rp.txt t) ++ rest) = .ok t rest := by
  unfold altOf
  by_cases h3 : t.kind = 3
  · obtain ⟨e, h2, hk⟩ := ht.three h3
    cases hks : t.kids with
    | nil => rw [hks] at h2; simp at h2
    | cons x l =>
      have hx := ht.kid (x := x) (by rw [hks]; simp)
      have hxk := hk x (by rw [hks]; simp)
      have et : cs (rp.txt t) ++ rest = cs (rp.txt x) ++ (cs (ways l) ++ rest) := by
        rw [rp.txt_eq, if_neg (by omega), if_neg (by omega), h3, hks, rp.txts, txts_three, if_neg (by simp)]
        simp [cs, rp.par]
      rw [et, cat_read hG x hx.1 hxk (by omega) _ (ways_end l he)]
      show alts G ((cs (ways l) ++ rest).length + 1) (laid [] x 3) (cs (ways l) ++ rest) = _
      have hl : laid [] x 3 = [x] := by unfold laid; rw [if_neg hxk]; rfl
      rw [hl, alts_read hG l [x] _ rest (fun y hy => by
        have := ht.kid (x := y) (by rw [hks]; simp [hy])
        exact ⟨this.1, hk y (by rw [hks]; simp [hy]), by omega⟩) he (by rw [List.length_append, cs_len]; omega)]
      have hg : grown 3 ([x] ++ l) = t := by
        unfold grown
        rw [show [x] ++ l = t.kids from hks.symm, if_neg (by omega), ← e]
      rw [hg]
  · rw [cat_read hG t ht h3 hd rest (close_end he)]
    show alts G (rest.length + 1) (laid [] t 3) rest = _
    have hl : laid [] t 3 = [t] := by unfold laid; rw [if_neg h3]; rfl
    have := alts_read hG [] [t] (rest.length + 1) rest (by simp) he (by simp [ways])
    rw [hl]
    exact this
theorem group_read (d : Nat) : Grp (group d) d := by
  induction d with
  | zero =>
    intro t ht hd
    rw [Tr.depth_eq] at hd
    omega
  | succ d ih =>
    intro t ht hd rest
    have e : cs (rp.par true (rp.txt t)) ++ rest = 40 :: (cs (rp.txt t) ++ 41 :: rest) := by simp [rp.par, cs]
    rw [e, group, oneOf, sees_in _ _ _ (by decide), if_pos rfl]
    show (altOf (group d) (cs (rp.txt t) ++ 41 :: rest)).then _ = _
    rw [alt_read ih t ht hd _ (.inr ⟨rest, rfl⟩)]
    rfl
/-- the whole -/
theorem parse_txt (t : Tr) (ht : Ok t) (hd : t.depth ≤ 30) (hl : (rp.txt t).length ≤ 512) : parse (cs (rp.txt t)) = (t, 0, 0) := by
  have h := alt_read (group_read 30) t ht (by omega) [] (.inl rfl)
  rw [List.append_nil] at h
  unfold parse
  rw [if_neg (by rw [cs_len]; omega)]
  have h2 : alt 30 (cs (rp.txt t)) = .ok t [] := h
  rw [h2]
  show (if ([] : List Nat) ≠ [] then _ else if t.depth ≤ 30 then (t, 0, 0) else _) = _
  rw [if_neg (by simp), if_pos hd]
end Go.Proofs.YtfclidcfhadohaaDoor.bk

namespace Go.Proofs.YtfclidcfhadohaaDoor.bk
open Go.Proofs.YtfclidcfhadohaaDoor.st
open Go.Proofs.YtfclidcfhadohaaDoor.rp (PrIs bs)
open Go.ChangeShapes Go.WideShapes Go.ChangeAt Go.RowKit
set_option linter.unusedVariables false

theorem codes_bs (l : List UInt8) : codes (bs l) = cs l := by simp [codes, bs, cs]

set_option maxHeartbeats 2000000 in
set_option maxRecDepth 100000 in
theorem back_none (t : Tr) (n : Nat) (hn : n ≠ 0) (hp : PrIs 6 t [] n) (hq : PrIs 7 t [] n) (v : Value) (w : World) (hI : Is w (fun _ => True) t v) : Calls Tryd.prog 4 #[.agg #[.int .i64 t.kind, .int .u64 t.set.a, .int .u64 t.set.b, .int .u64 t.set.c, .int .u64 t.set.d, .int .i64 t.min, .int .i64 t.max, v]] w fun e w' => e = .returned (.bool true) ∧ RowKit.Below w.heap.size w w' := by
  obtain ⟨o, nn, cap, rfl⟩ := hI.shape
  have B0 : RowKit.Below w.heap.size w (w.alloc (.cells #[.int .i64 t.kind, .int .u64 t.set.a, .int .u64 t.set.b, .int .u64 t.set.c, .int .u64 t.set.d, .int .i64 t.min, .int .i64 t.max, .slice o nn cap] 28)) := below_alloc _ _
  have hb0 := box_new w t (.slice o nn cap)
  obtain ⟨c0, c1, c2, c3, c4, c5, c6, c7⟩ := hb0.cells
  have hne : ((n : Int) == 0) = false := by rw [beq_eq_false_iff_ne]; omega
  have h1 := hq (.slice o nn cap) (w.alloc (.cells #[.int .i64 t.kind, .int .u64 t.set.a, .int .u64 t.set.b, .int .u64 t.set.c, .int .u64 t.set.d, .int .i64 t.min, .int .i64 t.max, .slice o nn cap] 28)) (hI.later B0)
  have HQ := (show Hid (∀ W, RowKit.Below (w.alloc (.cells #[.int .i64 t.kind, .int .u64 t.set.a, .int .u64 t.set.b, .int .u64 t.set.c, .int .u64 t.set.d, .int .i64 t.min, .int .i64 t.max, .slice o nn cap] 28)).heap.size (w.alloc (.cells #[.int .i64 t.kind, .int .u64 t.set.a, .int .u64 t.set.b, .int .u64 t.set.c, .int .u64 t.set.d, .int .i64 t.min, .int .i64 t.max, .slice o nn cap] 28)) W → Calls Tryd.prog 6 #[.agg #[.int .i64 t.kind, .int .u64 t.set.a, .int .u64 t.set.b, .int .u64 t.set.c, .int .u64 t.set.d, .int .i64 t.min, .int .i64 t.max, .slice o nn cap]] W (fun e w' => e = .returned (.tuple #[.string (bs []), .int .i64 n]) ∧ RowKit.Below W.heap.size W w') ∧ Box W w.heap.size t (.slice o nn cap)) from fun W hW => ⟨hp _ W ((hI.later B0).later hW), hb0.below hW⟩)
  clear hp hq hI
  have HZ := (show Hid ((bs []).toList.isEmpty = true) from by show _ = _; rw [ByteArray.toList_eq]; rfl)
  generalize bs [] = ts at *
  go_enter Tryd.func4, Tryd.ntmps4
  go_wp2_with (first | (go_at_call 7; (with_reducible refine h1.mono ?_); rintro e w1 ⟨rfl, b1⟩; obtain ⟨h2, hBx⟩ := HQ.out w1 b1; obtain ⟨d0, d1, d2, d3, d4, d5, d6, d7⟩ := hBx.cells) | (go_at_call 6; (with_reducible refine h2.mono ?_); rintro e w2 ⟨rfl, b2⟩))
  go_ret
  refine ⟨?_, (B0.trans (b1.mono B0.size)).trans (b2.mono (B0.trans (b1.mono B0.size)).size)⟩
  show Ending.returned (.bool ts.toList.isEmpty) = _
  rw [HZ.out]

set_option maxHeartbeats 2000000 in
set_option maxRecDepth 100000 in
theorem back_some (t : Tr) (hp : PrIs 6 t (rp.txt t) 0) (hq : PrIs 7 t (rp.txt t) 0) (h8 : ParseIs (bs (rp.txt t)) t 0 0) (hL : LikeIs t) (v : Value) (w : World) (hI : Is w (fun _ => True) t v) : Calls Tryd.prog 4 #[.agg #[.int .i64 t.kind, .int .u64 t.set.a, .int .u64 t.set.b, .int .u64 t.set.c, .int .u64 t.set.d, .int .i64 t.min, .int .i64 t.max, v]] w fun e w' => e = .returned (.bool true) ∧ RowKit.Below w.heap.size w w' := by
  obtain ⟨o, nn, cap, rfl⟩ := hI.shape
  have B0 : RowKit.Below w.heap.size w (w.alloc (.cells #[.int .i64 t.kind, .int .u64 t.set.a, .int .u64 t.set.b, .int .u64 t.set.c, .int .u64 t.set.d, .int .i64 t.min, .int .i64 t.max, .slice o nn cap] 28)) := below_alloc _ _
  have hb0 := box_new w t (.slice o nn cap)
  obtain ⟨c0, c1, c2, c3, c4, c5, c6, c7⟩ := hb0.cells
  have h1 := hq (.slice o nn cap) (w.alloc (.cells #[.int .i64 t.kind, .int .u64 t.set.a, .int .u64 t.set.b, .int .u64 t.set.c, .int .u64 t.set.d, .int .i64 t.min, .int .i64 t.max, .slice o nn cap] 28)) (hI.later B0)
  have HQ := (show Hid (∀ W, RowKit.Below (w.alloc (.cells #[.int .i64 t.kind, .int .u64 t.set.a, .int .u64 t.set.b, .int .u64 t.set.c, .int .u64 t.set.d, .int .i64 t.min, .int .i64 t.max, .slice o nn cap] 28)).heap.size (w.alloc (.cells #[.int .i64 t.kind, .int .u64 t.set.a, .int .u64 t.set.b, .int .u64 t.set.c, .int .u64 t.set.d, .int .i64 t.min, .int .i64 t.max, .slice o nn cap] 28)) W → Calls Tryd.prog 6 #[.agg #[.int .i64 t.kind, .int .u64 t.set.a, .int .u64 t.set.b, .int .u64 t.set.c, .int .u64 t.set.d, .int .i64 t.min, .int .i64 t.max, .slice o nn cap]] W (fun e w' => e = .returned (.tuple #[.string (bs (rp.txt t)), .int .i64 ((0 : Nat) : Int)]) ∧ RowKit.Below W.heap.size W w') ∧ Box W w.heap.size t (.slice o nn cap)) from fun W hW => ⟨hp _ W ((hI.later B0).later hW), hb0.below hW⟩)
  have HI := (show Hid (∀ W, RowKit.Below w.heap.size w W → Is W (fun _ => True) t (.slice o nn cap)) from fun W hW => hI.later hW)
  unfold ParseIs at h8
  unfold LikeIs at hL
  clear hp hq hI
  generalize bs (rp.txt t) = ts at *
  go_enter Tryd.func4, Tryd.ntmps4
  go_wp2_with (first | (go_at_call 7; (with_reducible refine h1.mono ?_); rintro e w1 ⟨rfl, b1⟩; obtain ⟨h2, hBx⟩ := HQ.out w1 b1; obtain ⟨d0, d1, d2, d3, d4, d5, d6, d7⟩ := hBx.cells; have B1 := B0.trans (b1.mono B0.size)) | (go_at_call 6; (with_reducible refine h2.mono ?_); rintro e w2 ⟨rfl, b2⟩; have B2 := B1.trans (b2.mono B1.size); have hBx2 := hBx.below b2) | (go_at_call 8; refine (h8 _).mono ?_; rintro e w3 ⟨v3, rfl, i3, b3⟩; obtain ⟨va, vn, vc, rfl⟩ := i3.shape; have B3 := B2.trans (b3.mono B2.size); have hBx3 := (hBx2.below b3).below (below_alloc w3 (.cells #[.int .i64 t.kind, .int .u64 t.set.a, .int .u64 t.set.b, .int .u64 t.set.c, .int .u64 t.set.d, .int .i64 t.min, .int .i64 t.max, .slice va vn vc] 28)); have hBn := box_new w3 t (.slice va vn vc); have B4 := B3.trans ((below_alloc w3 (.cells #[.int .i64 t.kind, .int .u64 t.set.a, .int .u64 t.set.b, .int .u64 t.set.c, .int .u64 t.set.d, .int .i64 t.min, .int .i64 t.max, .slice va vn vc] 28)).mono B3.size); obtain ⟨k0, k1, k2, k3, k4, k5, k6, k7⟩ := hBx3.cells; obtain ⟨l0, l1, l2, l3, l4, l5, l6, l7⟩ := hBn.cells; have i4 := i3.later (below_alloc w3 (.cells #[.int .i64 t.kind, .int .u64 t.set.a, .int .u64 t.set.b, .int .u64 t.set.c, .int .u64 t.set.d, .int .i64 t.min, .int .i64 t.max, .slice va vn vc] 28)); have iI := HI.out _ B4) | (go_at_call 9; refine (hL _ _ _ _ _ iI i4).mono ?_; rintro e w5 ⟨rfl, b5⟩))
  go_ret
  exact ⟨rfl, B4.trans (b5.mono B4.size)⟩

theorem depth_of {t : Tr} (h : rightN t = 0) : t.depth ≤ 30 := by
  unfold rightN at h
  split at h
  · rename_i hh
    exact hh.1
  · simp at h

theorem back_law (t : Tr) (hs : t.sane) (v : Value) (w : World) (hI : Is w (fun _ => True) t v) : Calls Tryd.prog 4 #[.agg #[.int .i64 t.kind, .int .u64 t.set.a, .int .u64 t.set.b, .int .u64 t.set.c, .int .u64 t.set.d, .int .i64 t.min, .int .i64 t.max, v]] w fun e w' => e = .returned (.bool true) ∧ RowKit.Below w.heap.size w w' := by
  by_cases h : rightN t = 0
  · by_cases hl : (rp.txt t).length ≤ 512
    · have hg := (rp.good_of h).1
      have hd : t.depth ≤ 30 := depth_of h
      have hpt := parse_txt t ⟨hg, hs⟩ hd hl
      have h8 := parse_any (bs (rp.txt t)) (by rw [rp.bs_size]; omega)
      rw [codes_bs, hpt] at h8
      exact back_some t (rp.print_yes t hs h _ _ (by rw [if_pos hl]) (by rw [if_pos hl])) (rp.rprint_yes t hs h _ _ (by rw [if_pos hl]) (by rw [if_pos hl])) h8 (like_any t.depth t (Nat.le_refl _)) v w hI
    · exact back_none t 2 (by decide) (rp.print_yes t hs h _ _ (by rw [if_neg hl]) (by rw [if_neg hl])) (rp.rprint_yes t hs h _ _ (by rw [if_neg hl]) (by rw [if_neg hl])) v w hI
  · exact back_none t _ h (rp.print_no t h) (rp.rprint_no t h) v w hI
end Go.Proofs.YtfclidcfhadohaaDoor.bk

namespace Go.Proofs.YtfclidcfhadohaaDoor.bk
open Go.Proofs.YtfclidcfhadohaaDoor.st
set_option linter.unusedVariables false

theorem then_ok {α β : Type} {r : R α} {f : α → List Nat → R β} {b : β} {l : List Nat} (h : r.then f = .ok b l) : ∃ a l1, r = .ok a l1 ∧ f a l1 = .ok b l := by
  cases r with
  | ok a l1 => exact ⟨a, l1, rfl, h⟩
  | bad e l1 => cases h

/-! sets -/
theorem kindOf_fits (c : Nat) (q : Q4) (h : kindOf c = some q) : Fits q := by
  unfold kindOf at h
  have hd : Fits digitSet := fits_ofl _
  have hw : Fits wordSet := fits_jn (fits_jn hd (fits_jn (fits_rng _ _) (fits_rng _ _))) (fits_rng _ _)
  have hb : Fits blankSet := fits_ofl _
  repeat' split at h
  all_goals (first | (injection h with h; subst h; first | exact hd | exact hw | exact hb | exact fits_nt _) | cases h)
theorem kind_fits (l : List Nat) (x : Q4 × List Nat) (h : kind l = some x) : Fits x.1 := by
  cases l with
  | nil => cases h
  | cons a l =>
    cases l with
    | nil => cases h
    | cons c l =>
      have h : (if a = 92 then (kindOf c).map (fun q => (q, l)) else none) = some x := h
      split at h
      · cases hk : kindOf c with
        | none => rw [hk] at h; cases h
        | some q => rw [hk] at h; injection h with h; subst h; exact kindOf_fits c q hk
      · cases h
theorem part_fits (l : List Nat) (q : Q4) (r : List Nat) (h : st.part l = .ok q r) : Fits q := by
  unfold st.part at h
  split at h
  · rename_i x hx
    injection h with h1 h2
    subst h1
    exact kind_fits l x hx
  · obtain ⟨a, l1, _, h⟩ := then_ok h
    split at h
    · obtain ⟨b, l2, _, h⟩ := then_ok h
      split at h
      · cases h
      · injection h with h1; subst h1; exact fits_rng _ _
    · injection h with h1; subst h1; exact fits_rng _ _
theorem parts_fits (n : Nat) : ∀ (q : Q4) (l : List Nat) (q' : Q4) (r : List Nat), Fits q → parts n q l = .ok q' r → Fits q' := by
  induction n with
  | zero => intro q l q' r hq h; cases h
  | succ n ih =>
    intro q l q' r hq h
    rw [parts] at h
    split at h
    · injection h with h1; subst h1; exact hq
    · obtain ⟨a, l1, h1, h⟩ := then_ok h
      exact ih _ _ _ _ (fits_jn hq (part_fits _ _ _ h1)) h
theorem cls_fits (l : List Nat) (q : Q4) (r : List Nat) (h : cls l = .ok q r) : Fits q := by
  unfold cls at h
  obtain ⟨a, l1, h1, h⟩ := then_ok h
  obtain ⟨b, l2, h2, h⟩ := then_ok h
  injection h with h3
  subst h3
  split
  · exact fits_nt _
  · exact parts_fits _ _ _ _ _ (part_fits _ _ _ h1) h2
theorem single_fits (l : List Nat) (q : Q4) (r : List Nat) (h : single l = .ok q r) : Fits q := by
  unfold single at h
  split at h
  · exact cls_fits _ _ _ h
  · split at h
    · injection h with h1; subst h1; exact fits_nt _
    · split at h
      · rename_i x hx
        injection h with h1; subst h1
        exact kind_fits l x hx
      · obtain ⟨a, l1, _, h⟩ := then_ok h
        injection h with h1; subst h1; exact fits_rng _ _

/-! times -/
theorem num_most (least : Nat) (l : List Nat) (n : Nat) (r : List Nat) (h : num least l = .ok n r) : least ≤ n ∧ n ≤ 20 := by
  unfold num at h
  obtain ⟨c, l1, _, h⟩ := then_ok h
  simp only at h
  generalize (if sees digits l1 = true then 10 * (c - 48) + (l1.headD 0 - 48) else c - 48) = k at h
  split at h
  · cases h
  · injection h with h1; subst h1; omega
def tmOk (x : Int × Int) : Prop := (x.1 = 1 ∧ x.2 = 1) ∨ timesOk x.1 x.2 = true
theorem tm_of (a b : Nat) (h1 : a ≤ b) (h2 : b ≤ 20) : tmOk ((a : Int), (b : Int)) := by
  by_cases h : (a : Int) = 1 ∧ (b : Int) = 1
  · exact .inl h
  · refine .inr ?_
    unfold timesOk
    simp only [Bool.and_eq_true, Bool.or_eq_true, decide_eq_true_eq, Bool.not_eq_true', Bool.and_eq_false_iff, decide_eq_false_iff_not]
    omega
theorem tm_up (a : Nat) (h : a ≤ 20) : tmOk ((a : Int), -1) := by
  refine .inr ?_
  unfold timesOk
  simp only [Bool.and_eq_true, Bool.or_eq_true, decide_eq_true_eq]
  exact ⟨⟨by omega, by omega⟩, .inl trivial⟩
theorem times_ok (l : List Nat) (x : Int × Int) (r : List Nat) (h : times l = .ok x r) : tmOk x := by
  unfold times at h
  obtain ⟨c, l1, _, h⟩ := then_ok h
  split at h
  · injection h with h1; subst h1; exact tm_up 0 (by omega)
  · split at h
    · injection h with h1; subst h1; exact tm_up 1 (by omega)
    · split at h
      · injection h with h1; subst h1; exact tm_of 0 1 (by omega) (by omega)
      · unfold bounds at h
        obtain ⟨a, l2, h1, h⟩ := then_ok h
        have ha := num_most _ _ _ _ h1
        split at h
        · split at h
          · obtain ⟨b, l3, h2, h⟩ := then_ok h
            have hb := num_most _ _ _ _ h2
            obtain ⟨_, _, _, h⟩ := then_ok h
            injection h with h3; subst h3
            exact tm_of a b hb.1 hb.2
          · obtain ⟨_, _, _, h⟩ := then_ok h
            injection h with h3; subst h3
            exact tm_up a ha.2
        · obtain ⟨_, _, _, h⟩ := then_ok h
          injection h with h3; subst h3
          exact tm_of a a (Nat.le_refl _) ha.2

/-! trees -/
theorem goods_of (l : List Tr) (h : ∀ t ∈ l, Ok t) : goods l = true := by
  induction l with
  | nil => rfl
  | cons t l ih => simp only [goods, Bool.and_eq_true]; exact ⟨(h t (by simp)).good, ih fun x hx => h x (by simp [hx])⟩
theorem mk_ok (k : Int) (q : Q4) (mn mx : Int) (l : List Tr) (h : okNode (.node k q mn mx l) = true) (hq : Fits q) (hl : ∀ t ∈ l, Ok t) (hk : 1 ≤ k ∧ k ≤ 4) (hm : -1 ≤ mn ∧ mn ≤ 20) (hx : -1 ≤ mx ∧ mx ≤ 20) : Ok (.node k q mn mx l) := by
  constructor
  · rw [Tr.good_eq, h]
    exact goods_of l hl
  · simp only [Tr.sane]
    exact ⟨hq, by omega, by omega, by omega, sanes_of l fun t ht => (hl t ht).sane⟩
theorem leaf_ok (q : Q4) (hq : Fits q) : Ok (.node 1 q 0 0 []) := mk_ok _ _ _ _ _ rfl hq (by simp) (by omega) (by omega) (by omega)
theorem again_ok (t : Tr) (x : Int × Int) (ht : Ok t) (hx : tmOk x) : Ok (again t x) := by
  unfold again
  by_cases h : x.1 = 1 ∧ x.2 = 1
  · rw [if_pos h]; exact ht
  · rw [if_neg h]
    have h2 := hx.resolve_left h
    have h3 : okNode (.node 4 none4 x.1 x.2 [t]) = true := by
      unfold okNode
      show (noSet none4 && timesOk x.1 x.2 && true) = true
      rw [h2]; rfl
    have h4 := rp.times_bounds h2
    exact mk_ok _ _ _ _ _ h3 fits_none (by simpa using ht) (by omega) (by omega) (by omega)
theorem rpts_ok (n : Nat) : ∀ (t : Tr) (l : List Nat) (t' : Tr) (r : List Nat), Ok t → rpts n t l = .ok t' r → Ok t' := by
  induction n with
  | zero => intro t l t' r ht h; cases h
  | succ n ih =>
    intro t l t' r ht h
    rw [rpts] at h
    split at h
    · obtain ⟨x, l1, h1, h⟩ := then_ok h
      exact ih _ _ _ _ (again_ok t x ht (times_ok _ _ _ h1)) h
    · injection h with h1; subst h1; exact ht
/-- a reader whose trees are expressions' -/
def GOk (G : List Nat → R Tr) : Prop := ∀ l t r, G l = .ok t r → Ok t
theorem item_ok {G : List Nat → R Tr} (hG : GOk G) : GOk (st.item G) := by
  intro l t r h
  unfold st.item at h
  obtain ⟨a, l1, h1, h⟩ := then_ok h
  refine rpts_ok _ _ _ _ _ ?_ h
  unfold atom at h1
  split at h1
  · exact hG _ _ _ h1
  · obtain ⟨q, l2, h2, h1⟩ := then_ok h1
    injection h1 with h3
    subst h3
    exact leaf_ok q (single_fits _ _ _ h2)
def Row (k : Int) (ks : List Tr) : Prop := ∀ t ∈ ks, Ok t ∧ t.kind ≠ k
theorem laid_two {ks : List Tr} {t : Tr} (h : Row 2 ks) (ht : Ok t) : Row 2 (laid ks t 2) := by
  unfold laid
  split
  · rename_i hk
    intro x hx
    rcases List.mem_append.1 hx with hx | hx
    · exact h x hx
    · exact ⟨(ht.kid hx).1, (ht.two hk).2.2 x hx⟩
  · rename_i hk
    intro x hx
    rcases List.mem_append.1 hx with hx | hx
    · exact h x hx
    · obtain rfl := List.mem_singleton.1 hx
      exact ⟨ht, hk⟩
theorem laid_three {ks : List Tr} {t : Tr} (h : Row 3 ks) (ht : Ok t) : Row 3 (laid ks t 3) ∧ laid ks t 3 ≠ [] := by
  unfold laid
  split
  · rename_i hk
    refine ⟨fun x hx => ?_, fun e => ?_⟩
    · rcases List.mem_append.1 hx with hx | hx
      · exact h x hx
      · exact ⟨(ht.kid hx).1, (ht.three hk).2.2 x hx⟩
    · have := (ht.three hk).2.1
      have h2 := congrArg List.length e
      rw [List.length_append, List.length_nil] at h2
      omega
  · rename_i hk
    refine ⟨fun x hx => ?_, by simp⟩
    rcases List.mem_append.1 hx with hx | hx
    · exact h x hx
    · obtain rfl := List.mem_singleton.1 hx
      exact ⟨ht, hk⟩
theorem any_no (k : Int) (ks : List Tr) (h : Row k ks) : anyKind k ks = false := by
  unfold anyKind
  rw [List.any_eq_false]
  intro t ht
  simpa using (h t ht).2
theorem grown_two {ks : List Tr} (h : Row 2 ks) : Ok (grown 2 ks) := by
  unfold grown
  split
  · rename_i h1
    exact (h _ (nthT_mem ks 0 (by omega))).1
  · rename_i h1
    refine mk_ok _ _ _ _ _ ?_ fits_none (fun t ht => (h t ht).1) (by omega) (by omega) (by omega)
    unfold okNode
    show (true && true && true && !decide (ks.length = 1) && !anyKind 2 ks) = true
    rw [any_no 2 ks h, decide_eq_false h1]
    rfl
theorem grown_three {ks : List Tr} (h : Row 3 ks) (hne : ks ≠ []) : Ok (grown 3 ks) := by
  have := List.length_pos_iff.2 hne
  unfold grown
  split
  · rename_i h1
    exact (h _ (nthT_mem ks 0 (by omega))).1
  · rename_i h1
    refine mk_ok _ _ _ _ _ ?_ fits_none (fun t ht => (h t ht).1) (by omega) (by omega) (by omega)
    unfold okNode
    show (true && true && true && decide (2 ≤ ks.length) && !anyKind 3 ks) = true
    rw [any_no 3 ks h, decide_eq_true (by omega)]
    rfl
theorem items_ok {G : List Nat → R Tr} (hG : GOk G) (n : Nat) : ∀ (ks : List Tr) (l : List Nat) (t : Tr) (r : List Nat), Row 2 ks → items G n ks l = .ok t r → Ok t := by
  induction n with
  | zero => intro ks l t r hk h; cases h
  | succ n ih =>
    intro ks l t r hk h
    rw [items] at h
    split at h
    · injection h with h1; subst h1; exact grown_two hk
    · obtain ⟨a, l1, h1, h⟩ := then_ok h
      exact ih _ _ _ _ (laid_two hk (item_ok hG _ _ _ h1)) h
theorem cat_ok {G : List Nat → R Tr} (hG : GOk G) : GOk (cat G) := fun l t r h => items_ok hG _ _ _ _ _ (fun t ht => by simp at ht) h
theorem alts_ok {G : List Nat → R Tr} (hG : GOk G) (n : Nat) : ∀ (ks : List Tr) (l : List Nat) (t : Tr) (r : List Nat), Row 3 ks → ks ≠ [] → alts G n ks l = .ok t r → Ok t := by
  induction n with
  | zero => intro ks l t r hk hne h; cases h
  | succ n ih =>
    intro ks l t r hk hne h
    rw [alts] at h
    split at h
    · obtain ⟨a, l1, h1, h⟩ := then_ok h
      have := laid_three hk (cat_ok hG _ _ _ h1)
      exact ih _ _ _ _ this.1 this.2 h
    · injection h with h1; subst h1; exact grown_three hk hne
theorem altOf_ok {G : List Nat → R Tr} (hG : GOk G) : GOk (altOf G) := by
  intro l t r h
  unfold altOf at h
  obtain ⟨a, l1, h1, h⟩ := then_ok h
  have := laid_three (ks := []) (fun t ht => by simp at ht) (cat_ok hG _ _ _ h1)
  exact alts_ok hG _ _ _ _ _ this.1 this.2 h
theorem group_ok (d : Nat) : GOk (group d) := by
  induction d with
  | zero => intro l t r h; cases h
  | succ d ih =>
    intro l t r h
    rw [group] at h
    obtain ⟨_, l1, _, h⟩ := then_ok h
    obtain ⟨a, l2, h1, h⟩ := then_ok h
    obtain ⟨_, l3, _, h⟩ := then_ok h
    injection h with h3
    subst h3
    exact altOf_ok ih _ _ _ h1
/-- what is read: an expression's tree that is not too deep, or nothing, at a place within the text -/
theorem parse_cases (l : List Nat) : (∃ t, parse l = (t, 0, 0) ∧ Ok t ∧ t.depth ≤ 30) ∨ ∃ e p, parse l = (Tr.zero, e, p) ∧ p ≤ l.length ∧ (e = 0 → ∃ r, alt 30 l = .bad 0 r) := by
  unfold parse
  split
  · exact .inr ⟨2, 0, rfl, Nat.zero_le _, fun h => by simp at h⟩
  · split
    · rename_i e r he
      exact .inr ⟨e, _, rfl, Nat.sub_le _ _, fun h => ⟨r, by rw [← h]; exact he⟩⟩
    · rename_i t r he
      split
      · exact .inr ⟨60, _, rfl, Nat.sub_le _ _, fun h => by simp at h⟩
      · split
        · rename_i hd
          exact .inl ⟨t, rfl, altOf_ok (group_ok 30) _ _ _ he, hd⟩
        · exact .inr ⟨2, 0, rfl, Nat.zero_le _, fun h => by simp at h⟩
end Go.Proofs.YtfclidcfhadohaaDoor.bk

namespace Go.Proofs.YtfclidcfhadohaaDoor.bk
open Go.Proofs.YtfclidcfhadohaaDoor.st
set_option linter.unusedVariables false

/-- fewer than so many are left, or a true error -/
def S {α : Type} (n : Nat) (r : R α) : Prop := match r with | .ok _ l => l.length < n | .bad e _ => e ≠ 0
theorem S.mono {α : Type} {m n : Nat} {r : R α} (h : S m r) (hmn : m ≤ n) : S n r := by
  cases r with
  | ok a l => exact Nat.lt_of_lt_of_le h hmn
  | bad e l => exact h
theorem S.then {α β : Type} {n m : Nat} {r : R α} {f : α → List Nat → R β} (h : S n r) (hf : ∀ a l1, l1.length < n → S m (f a l1)) : S m (r.then f) := by
  cases r with
  | ok a l => exact hf a l h
  | bad e l => exact h
theorem tail_len (l : List Nat) : l.tail.length ≤ l.length := by cases l <;> simp
theorem sees_pos {s l : List Nat} (h : sees s l = true) : l.tail.length + 1 = l.length := by
  cases l with
  | nil => cases h
  | cons c l => simp
theorem bad_S {α : Type} (n e : Nat) (l : List Nat) (h : e ≠ 0) : S n (R.bad (α := α) e l) := h
theorem ok_S {α : Type} (n : Nat) (a : α) (l : List Nat) (h : l.length < n) : S n (R.ok a l) := h

theorem step_S (l : List Nat) : S l.length (st.step l) := by
  cases l with
  | nil => exact bad_S _ _ _ (by decide)
  | cons c l => exact ok_S _ _ _ (by simp)
theorem oneOf_S (s l : List Nat) : S l.length (oneOf s l) := by
  unfold oneOf
  split
  · exact step_S l
  · exact bad_S _ _ _ (by decide)
theorem noneOf_S (s l : List Nat) : S l.length (noneOf s l) := by
  unfold noneOf
  split
  · exact bad_S _ _ _ (by decide)
  · exact step_S l
theorem hex_S (l : List Nat) : S l.length (hex l) := (oneOf_S _ _).then fun a l1 h => ok_S _ _ _ h
theorem one_S (l : List Nat) : S l.length (st.one l) := by
  unfold st.one
  refine (oneOf_S _ _).then fun c l1 h => ?_
  split
  · exact ok_S _ _ _ h
  · split
    · exact ok_S _ _ _ h
    · split
      · exact ok_S _ _ _ h
      · split
        · exact ((hex_S l1).mono (Nat.le_of_lt h)).then fun a l2 h2 => ((hex_S l2).mono (Nat.le_of_lt h2)).then fun b l3 h3 => ok_S _ _ _ h3
        · exact ok_S _ _ _ h
theorem point_S (s l : List Nat) : S l.length (point s l) := by
  unfold point
  split
  · exact (one_S _).mono (tail_len l)
  · exact noneOf_S _ _
theorem kind_S (l : List Nat) (x : Q4 × List Nat) (h : kind l = some x) : x.2.length < l.length := by
  cases l with
  | nil => cases h
  | cons a l =>
    cases l with
    | nil => cases h
    | cons c l =>
      have h : (if a = 92 then (kindOf c).map (fun q => (q, l)) else none) = some x := h
      split at h
      · cases hk : kindOf c with
        | none => rw [hk] at h; cases h
        | some q => rw [hk] at h; injection h with h; subst h; simp; omega
      · cases h
theorem part_S (l : List Nat) : S l.length (st.part l) := by
  unfold st.part
  split
  · rename_i x hx
    exact ok_S _ _ _ (kind_S l x hx)
  · refine (point_S _ _).then fun a l1 h => ?_
    split
    · refine ((point_S _ _).mono (Nat.le_trans (tail_len l1) (Nat.le_of_lt h))).then fun b l2 h2 => ?_
      split
      · exact bad_S _ _ _ (by decide)
      · exact ok_S _ _ _ h2
    · exact ok_S _ _ _ h
theorem parts_S (n : Nat) : ∀ (q : Q4) (l : List Nat), l.length < n → S l.length (parts n q l) := by
  induction n with
  | zero => intro q l h; omega
  | succ n ih =>
    intro q l h
    rw [parts]
    split
    · rename_i hs
      have := sees_pos hs
      exact ok_S _ _ _ (by omega)
    · exact (part_S l).then fun a l1 h1 => (ih _ l1 (by omega)).mono (by omega)
theorem cls_S (l : List Nat) : S l.length (cls l) := by
  unfold cls
  have h0 : (if sees [94] l = true then l.tail else l).length ≤ l.length := by
    split
    · exact tail_len l
    · exact Nat.le_refl _
  refine ((part_S _).mono h0).then fun q l1 h1 => ?_
  exact ((parts_S _ _ _ (Nat.lt_succ_self _)).mono (Nat.le_of_lt h1)).then fun q l2 h2 => ok_S _ _ _ h2
theorem single_S (l : List Nat) : S l.length (single l) := by
  unfold single
  split
  · exact (cls_S _).mono (tail_len l)
  · split
    · rename_i hs
      have := sees_pos hs
      exact ok_S _ _ _ (by omega)
    · split
      · rename_i x hx
        exact ok_S _ _ _ (kind_S l x hx)
      · exact (point_S _ _).then fun b l1 h => ok_S _ _ _ h
theorem num_S (least : Nat) (l : List Nat) : S l.length (num least l) := by
  unfold num
  refine (oneOf_S _ _).then fun c l1 h => ?_
  have ht := tail_len l1
  have hl : (if sees digits l1 = true then l1.tail else l1).length < l.length := by
    split
    · omega
    · exact h
  show S l.length (if (if sees digits l1 = true then 10 * (c - 48) + (l1.headD 0 - 48) else c - 48) < least ∨ 20 < (if sees digits l1 = true then 10 * (c - 48) + (l1.headD 0 - 48) else c - 48) then R.bad 60 l else R.ok (if sees digits l1 = true then 10 * (c - 48) + (l1.headD 0 - 48) else c - 48) (if sees digits l1 = true then l1.tail else l1))
  by_cases hc : (if sees digits l1 = true then 10 * (c - 48) + (l1.headD 0 - 48) else c - 48) < least ∨ 20 < (if sees digits l1 = true then 10 * (c - 48) + (l1.headD 0 - 48) else c - 48)
  · rw [if_pos hc]
    exact bad_S _ 60 _ (by decide)
  · rw [if_neg hc]
    exact ok_S _ _ _ hl
theorem bounds_S (l : List Nat) : S l.length (bounds l) := by
  unfold bounds
  refine (num_S _ _).then fun a l1 h => ?_
  have := tail_len l1
  split
  · split
    · exact ((num_S _ _).mono (by omega)).then fun b l2 h2 => ((oneOf_S _ l2).mono (Nat.le_of_lt h2)).then fun _ l3 h3 => ok_S _ _ _ h3
    · exact ((oneOf_S _ _).mono (by omega)).then fun _ l3 h3 => ok_S _ _ _ h3
  · exact ((oneOf_S _ _).mono (by omega)).then fun _ l3 h3 => ok_S _ _ _ h3
theorem times_S (l : List Nat) : S l.length (times l) := by
  unfold times
  refine (step_S _).then fun c l1 h => ?_
  split
  · exact ok_S _ _ _ h
  · split
    · exact ok_S _ _ _ h
    · split
      · exact ok_S _ _ _ h
      · exact (bounds_S _).mono (by omega)
theorem rpts_S (n : Nat) : ∀ (t : Tr) (l : List Nat), l.length < n → S (l.length + 1) (rpts n t l) := by
  induction n with
  | zero => intro t l h; omega
  | succ n ih =>
    intro t l h
    rw [rpts]
    split
    · exact (times_S l).then fun x l1 h1 => (ih _ l1 (by omega)).mono (by omega)
    · exact ok_S _ _ _ (by omega)
def GS (G : List Nat → R Tr) : Prop := ∀ l, S l.length (G l)
theorem item_S {G : List Nat → R Tr} (hG : GS G) (l : List Nat) : S l.length (st.item G l) := by
  unfold st.item
  have ha : S l.length (atom G l) := by
    unfold atom
    split
    · exact hG l
    · exact (single_S l).then fun q l1 h => ok_S _ _ _ h
  exact ha.then fun t l1 h => (rpts_S _ t l1 (Nat.lt_succ_self _)).mono h
theorem items_S {G : List Nat → R Tr} (hG : GS G) (n : Nat) : ∀ (ks : List Tr) (l : List Nat), l.length < n → S (l.length + 1) (items G n ks l) := by
  induction n with
  | zero => intro ks l h; omega
  | succ n ih =>
    intro ks l h
    rw [items]
    split
    · exact ok_S _ _ _ (by omega)
    · exact (item_S hG l).then fun x l1 h1 => (ih _ l1 (by omega)).mono (by omega)
theorem cat_S {G : List Nat → R Tr} (hG : GS G) (l : List Nat) : S (l.length + 1) (cat G l) := items_S hG _ _ _ (Nat.lt_succ_self _)
theorem alts_S {G : List Nat → R Tr} (hG : GS G) (n : Nat) : ∀ (ks : List Tr) (l : List Nat), l.length < n → S (l.length + 1) (alts G n ks l) := by
  induction n with
  | zero => intro ks l h; omega
  | succ n ih =>
    intro ks l h
    rw [alts]
    split
    · rename_i hs
      have := sees_pos hs
      exact (cat_S hG l.tail).then fun x l1 h1 => (ih _ l1 (by omega)).mono (by omega)
    · exact ok_S _ _ _ (by omega)
theorem altOf_S {G : List Nat → R Tr} (hG : GS G) (l : List Nat) : S (l.length + 1) (altOf G l) := by
  unfold altOf
  exact (cat_S hG l).then fun t l1 h => (alts_S hG _ _ l1 (Nat.lt_succ_self _)).mono h
theorem group_S (d : Nat) : GS (group d) := by
  induction d with
  | zero => intro l; exact bad_S _ _ _ (by decide)
  | succ d ih =>
    intro l
    rw [group]
    exact (oneOf_S _ _).then fun _ l1 h => ((altOf_S ih l1).mono (show l1.length + 1 ≤ l.length from h)).then fun t l2 h2 => ((oneOf_S _ l2).mono (Nat.le_of_lt h2)).then fun _ l3 h3 => ok_S _ _ _ h3
theorem alt_not (l : List Nat) (e : Nat) (r : List Nat) (h : alt 30 l = .bad e r) : e ≠ 0 := by
  have := altOf_S (group_S 30) l
  have h2 : altOf (group 30) l = .bad e r := h
  rw [h2] at this
  exact this
/-- what is read: an expression's tree that is not too deep, or nothing, with an error and a place within the text -/
theorem parse_two (l : List Nat) : (∃ t, parse l = (t, 0, 0) ∧ Ok t ∧ t.depth ≤ 30) ∨ ∃ e p, parse l = (Tr.zero, e, p) ∧ p ≤ l.length ∧ e ≠ 0 := by
  rcases parse_cases l with h | ⟨e, p, h1, h2, h3⟩
  · exact .inl h
  · refine .inr ⟨e, p, h1, h2, fun he => ?_⟩
    obtain ⟨r, hr⟩ := h3 he
    exact alt_not l 0 r hr rfl
end Go.Proofs.YtfclidcfhadohaaDoor.bk

namespace Go.Proofs.YtfclidcfhadohaaDoor.st
open Go.ChangeShapes Go.WideShapes Go.ChangeAt Go.RowKit
set_option linter.unusedVariables false

theorem below_iter (w : World) (s : ByteArray) (p : Nat) : RowKit.Below w.heap.size w (w.iter s p) := (Below.refl _ _).alloc (Nat.le_refl _) _

theorem count_a (s : ByteArray) (hd : Utf8.decode s 0 = (97, 1)) (h0 : 0 < s.size) (hz : s.size ≤ 1) (w : World) :
    Calls Tryd.prog 18 #[.string s] w fun e w' => e = .returned (.int .i64 1) ∧ RowKit.Below w.heap.size w w' := by
  have HD : Hid (Utf8.decode s 0 = (97, 1)) := hd
  clear hd
  go_enter Tryd.func18, Tryd.ntmps18
  go_wp2
  go_loopw [3] (fun v wr => ∃ pos, wr = w.iter s pos ∧ ((pos = 0 ∧ v = .int .i64 0) ∨ (¬ pos < s.size ∧ v = .int .i64 1))) (fun _ wr => s.size - wr.iterPos w.heap.size)
  case atStart => exact ⟨0, rfl, .inl ⟨rfl, rfl⟩⟩
  case round =>
    obtain ⟨pos, rfl, ⟨rfl, rfl⟩ | ⟨hpos, rfl⟩⟩ := hrel
    · have hnx := fun ty => run_next_any (P := Tryd.prog) w s 0 ty h0
      rw [HD.out] at hnx
      go_wp2
      go_roundw
      case rel => exact ⟨1, by simp, .inr ⟨by omega, rfl⟩⟩
      case measure => simp; omega
    · have hnx := fun ty => run_next_end (P := Tryd.prog) w s pos ty hpos
      go_wp2
      go_ret
      exact ⟨rfl, below_iter _ _ _⟩

theorem alive_any (w : World) : Calls Tryd.prog 10 #[] w fun e w' => e = .returned (.bool true) ∧ RowKit.Below w.heap.size w w' := by
  have h20 := count_a ⟨#[97]⟩ (by decide) (by decide) (by decide)
  go_enter Tryd.func10, Tryd.ntmps10
  go_wp2_with fail
  refine (h20 _).mono ?_
  rintro e w1 ⟨rfl, b1⟩
  go_wp2
  go_ret
  exact ⟨rfl, b1⟩

theorem codes_extract (s : ByteArray) (n : Nat) : codes (s.extract 0 n) = (codes s).take n := by
  unfold codes
  rw [ByteArray.data_extract, Array.toList_extract]
  simp
end Go.Proofs.YtfclidcfhadohaaDoor.st

namespace Go.Proofs.YtfclidcfhadohaaDoor.bk
open Go.Proofs.YtfclidcfhadohaaDoor.st
open Go.Proofs.YtfclidcfhadohaaDoor.rp (PrIs bs)
open Go.ChangeShapes Go.WideShapes Go.ChangeAt Go.RowKit
set_option linter.unusedVariables false

def AgIs (s : ByteArray) : Prop := ∀ w, Calls Tryd.prog 5 #[.string s] w fun e w' => e = .returned (.bool true) ∧ RowKit.Below w.heap.size w w'

set_option maxHeartbeats 2000000 in
set_option maxRecDepth 100000 in
theorem again_bad (s : ByteArray) (e p : Nat) (he : e ≠ 0) (hp : p ≤ s.size) (h8 : ParseIs s Tr.zero e p) : AgIs s := by
  intro w
  have h10 := alive_any w
  have hne : ((e : Int) == 0) = false := by rw [beq_eq_false_iff_ne]; omega
  have h8' : ∀ w, Calls Tryd.prog 8 #[.string s] w fun x w' => ∃ v, x = .returned (.tuple #[.agg #[.int .i64 0, .int .u64 0, .int .u64 0, .int .u64 0, .int .u64 0, .int .i64 0, .int .i64 0, v], .int .i64 e, .int .i64 p]) ∧ Is w' (fun b => w.heap.size ≤ b) Tr.zero v ∧ RowKit.Below w.heap.size w w' := h8
  have hL : ∀ va w P, Is w P Tr.zero va → Calls Tryd.prog 9 #[.agg #[.int .i64 0, .int .u64 0, .int .u64 0, .int .u64 0, .int .u64 0, .int .i64 0, .int .i64 0, va], .agg #[.int .i64 0, .int .u64 0, .int .u64 0, .int .u64 0, .int .u64 0, .int .i64 0, .int .i64 0, .slice none 0 0]] w fun e w' => e = .returned (.bool true) ∧ RowKit.Below w.heap.size w w' := fun va w P h => like_any 1 Tr.zero (by decide) va (.slice none 0 0) w P P h (.leaf 0 _ 0 0 none 0)
  have hpl : decide ((p : Int) ≤ (s.size : Int)) = true := by simp; omega
  clear h8
  go_enter Tryd.func5, Tryd.ntmps5
  go_wp2_with (first | (go_at_call 10; refine h10.mono ?_; rintro x w1 ⟨rfl, b1⟩) | (go_at_call 8; refine (h8' _).mono ?_; rintro x w2 ⟨v, rfl, i2, b2⟩; obtain ⟨va, vn, vc, rfl⟩ := i2.shape; have B2 := b1.trans (b2.mono b1.size); have hbn := box_new w2 Tr.zero (.slice va vn vc); have B3 := B2.trans ((below_alloc w2 (.cells #[.int .i64 0, .int .u64 0, .int .u64 0, .int .u64 0, .int .u64 0, .int .i64 0, .int .i64 0, .slice va vn vc] 28)).mono B2.size); have hbz : Box (w2.alloc (.cells #[.int .i64 0, .int .u64 0, .int .u64 0, .int .u64 0, .int .u64 0, .int .i64 0, .int .i64 0, .slice va vn vc] 28)) w2.heap.size Tr.zero (.slice va vn vc) := hbn; obtain ⟨k0, k1, k2, k3, k4, k5, k6, k7⟩ := hbz.cells; have i3 := i2.later (below_alloc w2 (.cells #[.int .i64 0, .int .u64 0, .int .u64 0, .int .u64 0, .int .u64 0, .int .i64 0, .int .i64 0, .slice va vn vc] 28))) | (go_at_call 9; refine (hL _ _ _ i3).mono ?_; rintro x w4 ⟨rfl, b4⟩))
  go_ret
  exact ⟨rfl, B3.trans (b4.mono B3.size)⟩

set_option maxHeartbeats 2000000 in
set_option maxRecDepth 100000 in
theorem again_many (s : ByteArray) (t : Tr) (h8 : ParseIs s t 0 0) (hr : rightN t = 2) : AgIs s := by
  intro w
  have h10 := alive_any w
  have h11 := right_is t 2 hr.symm
  unfold ParseIs at h8
  unfold RightIs at h11
  clear hr
  go_enter Tryd.func5, Tryd.ntmps5
  go_wp2_with (first | (go_at_call 10; refine h10.mono ?_; rintro x w1 ⟨rfl, b1⟩) | (go_at_call 8; refine (h8 _).mono ?_; rintro x w2 ⟨v, rfl, i2, b2⟩; obtain ⟨va, vn, vc, rfl⟩ := i2.shape; have B2 := b1.trans (b2.mono b1.size); have hbn := box_new w2 t (.slice va vn vc); have A3 := below_alloc w2 (.cells #[.int .i64 t.kind, .int .u64 t.set.a, .int .u64 t.set.b, .int .u64 t.set.c, .int .u64 t.set.d, .int .i64 t.min, .int .i64 t.max, .slice va vn vc] 28); have B3 := B2.trans (A3.mono B2.size); obtain ⟨k0, k1, k2, k3, k4, k5, k6, k7⟩ := hbn.cells; have i3 := (i2.weaken (P' := fun _ => True) (fun _ _ => trivial)).later A3; have h11a := h11 _ _ i3) | (go_at_call 11; (with_reducible refine h11a.mono ?_); rintro x w4 ⟨rfl, b4⟩; have B4 := B3.trans (b4.mono B3.size); have hb4 := hbn.below b4; obtain ⟨l0, l1, l2, l3, l4, l5, l6, l7⟩ := hb4.cells; have h11b := h11 _ _ (i3.later b4)) | (go_at_call 11; (with_reducible refine h11b.mono ?_); rintro x w5 ⟨rfl, b5⟩))
  go_ret
  exact ⟨rfl, B4.trans (b5.mono B4.size)⟩

set_option maxHeartbeats 2000000 in
set_option maxRecDepth 100000 in
theorem again_long (s : ByteArray) (t : Tr) (h8 : ParseIs s t 0 0) (hr : rightN t = 0) (hp : PrIs 6 t [] 2) : AgIs s := by
  intro w
  have h10 := alive_any w
  have h11 := right_is t 0 hr.symm
  unfold ParseIs at h8
  unfold RightIs at h11
  unfold PrIs at hp
  clear hr
  go_enter Tryd.func5, Tryd.ntmps5
  go_wp2_with (first | (go_at_call 10; refine h10.mono ?_; rintro x w1 ⟨rfl, b1⟩) | (go_at_call 8; refine (h8 _).mono ?_; rintro x w2 ⟨v, rfl, i2, b2⟩; obtain ⟨va, vn, vc, rfl⟩ := i2.shape; have B2 := b1.trans (b2.mono b1.size); have hbn := box_new w2 t (.slice va vn vc); have A3 := below_alloc w2 (.cells #[.int .i64 t.kind, .int .u64 t.set.a, .int .u64 t.set.b, .int .u64 t.set.c, .int .u64 t.set.d, .int .i64 t.min, .int .i64 t.max, .slice va vn vc] 28); have B3 := B2.trans (A3.mono B2.size); obtain ⟨k0, k1, k2, k3, k4, k5, k6, k7⟩ := hbn.cells; have i3 := (i2.weaken (P' := fun _ => True) (fun _ _ => trivial)).later A3; have h11a := h11 _ _ i3) | (go_at_call 11; (with_reducible refine h11a.mono ?_); rintro x w4 ⟨rfl, b4⟩; have B4 := B3.trans (b4.mono B3.size); have hb4 := hbn.below b4; obtain ⟨l0, l1, l2, l3, l4, l5, l6, l7⟩ := hb4.cells; have h6 := hp _ _ (i3.later b4)) | (go_at_call 6; (with_reducible refine h6.mono ?_); rintro x w5 ⟨rfl, b5⟩))
  go_ret
  exact ⟨rfl, B4.trans (b5.mono B4.size)⟩

set_option maxHeartbeats 4000000 in
set_option maxRecDepth 100000 in
theorem again_some (s : ByteArray) (t : Tr) (h8 : ParseIs s t 0 0) (hr : rightN t = 0) (hp : PrIs 6 t (rp.txt t) 0) (h9 : ParseIs (bs (rp.txt t)) t 0 0) (hL : LikeIs t) : AgIs s := by
  intro w
  have h10 := alive_any w
  have h11 := right_is t 0 hr.symm
  unfold ParseIs at h8 h9
  unfold RightIs at h11
  unfold PrIs at hp
  unfold LikeIs at hL
  clear hr
  generalize bs (rp.txt t) = ts at *
  go_enter Tryd.func5, Tryd.ntmps5
  go_wp2_with (first | (go_at_call 10; refine h10.mono ?_; rintro x w1 ⟨rfl, b1⟩; have h8a := h8 w1) | (go_at_call 8; (with_reducible refine h8a.mono ?_); rintro x w2 ⟨v, rfl, i2, b2⟩; obtain ⟨va, vn, vc, rfl⟩ := i2.shape; have B2 := b1.trans (b2.mono b1.size); have hbn := box_new w2 t (.slice va vn vc); have A3 := below_alloc w2 (.cells #[.int .i64 t.kind, .int .u64 t.set.a, .int .u64 t.set.b, .int .u64 t.set.c, .int .u64 t.set.d, .int .i64 t.min, .int .i64 t.max, .slice va vn vc] 28); have B3 := B2.trans (A3.mono B2.size); obtain ⟨k0, k1, k2, k3, k4, k5, k6, k7⟩ := hbn.cells; have i3 := (i2.weaken (P' := fun _ => True) (fun _ _ => trivial)).later A3; have h11a := h11 _ _ i3) | (go_at_call 11; (with_reducible refine h11a.mono ?_); rintro x w4 ⟨rfl, b4⟩; have B4 := B3.trans (b4.mono B3.size); have hb4 := hbn.below b4; obtain ⟨l0, l1, l2, l3, l4, l5, l6, l7⟩ := hb4.cells; have i4 := i3.later b4; have h6 := hp _ _ i4) | (go_at_call 6; (with_reducible refine h6.mono ?_); rintro x w5 ⟨rfl, b5⟩; have B5 := B4.trans (b5.mono B4.size); have hb5 := hb4.below b5; have i5 := i4.later b5; have h9a := h9 w5) | (go_at_call 8; (with_reducible refine h9a.mono ?_); rintro x w6 ⟨v6, rfl, i6, b6⟩; obtain ⟨ua, un, uc, rfl⟩ := i6.shape; have B6 := B5.trans (b6.mono B5.size); have A7 := below_alloc w6 (.cells #[.int .i64 t.kind, .int .u64 t.set.a, .int .u64 t.set.b, .int .u64 t.set.c, .int .u64 t.set.d, .int .i64 t.min, .int .i64 t.max, .slice ua un uc] 28); have hbm := box_new w6 t (.slice ua un uc); have B7 := B6.trans (A7.mono B6.size); have hb7 := (hb5.below b6).below A7; obtain ⟨m0, m1, m2, m3, m4, m5, m6, m7⟩ := hbm.cells; have i7 := (i6.weaken (P' := fun _ => True) (fun _ _ => trivial)).later A7; have j7 := (i5.later b6).later A7; have h6b := hp _ _ i7) | (go_at_call 6; (with_reducible refine h6b.mono ?_); rintro x w8 ⟨rfl, b8'⟩; have B8 := B7.trans (b8'.mono B7.size); have hb8 := hb7.below b8'; have hbm8 := hbm.below b8'; obtain ⟨n0, n1, n2, n3, n4, n5, n6, n7⟩ := hb8.cells; obtain ⟨o0, o1, o2, o3, o4, o5, o6, o7⟩ := hbm8.cells; have h9b := hL _ _ _ _ _ (j7.later b8') (i7.later b8')) | (go_at_call 9; (with_reducible refine h9b.mono ?_); rintro x w9 ⟨rfl, b9⟩))
  go_ret
  exact ⟨rfl, B8.trans (b9.mono B8.size)⟩

theorem again_law (s : ByteArray) (hs : s.size ≤ 9223372036854775807) : AgIs s := by
  have h8 := parse_any s hs
  rcases parse_two (codes s) with ⟨t, hp, ht, hd⟩ | ⟨e, p, hp, h1, h2⟩
  · rw [hp] at h8
    by_cases h : rightN t = 0
    · by_cases hl : (rp.txt t).length ≤ 512
      · have hpt := parse_txt t ht hd hl
        have h9 := parse_any (bs (rp.txt t)) (by rw [rp.bs_size]; omega)
        rw [codes_bs, hpt] at h9
        exact again_some s t h8 h (rp.print_yes t ht.sane h _ _ (by rw [if_pos hl]) (by rw [if_pos hl])) h9 (like_any t.depth t (Nat.le_refl _))
      · exact again_long s t h8 h (rp.print_yes t ht.sane h _ _ (by rw [if_neg hl]) (by rw [if_neg hl]))
    · refine again_many s t h8 ?_
      unfold rightN at h ⊢
      rw [ht.good] at h ⊢
      split
      · rename_i hc
        rw [if_pos hc] at h
        exact absurd rfl h
      · rfl
  · rw [hp] at h8
    rw [codes_length] at h1
    exact again_bad s e p h2 h1 h8
end Go.Proofs.YtfclidcfhadohaaDoor.bk
