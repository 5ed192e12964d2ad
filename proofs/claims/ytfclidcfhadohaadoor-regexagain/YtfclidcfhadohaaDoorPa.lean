/-
  Plain mathematics, no program: how an expression's tree is written: a byte, the parts of a class, a set, times, a tree.
-/
import Derived.Test.YtfclidcfhadohaaDoorTree
import Derived.Lib.ItoaNum
namespace Go.Proofs.YtfclidcfhadohaaDoor.rp
open Go.Proofs.YtfclidcfhadohaaDoor.st
set_option linter.unusedVariables false

abbrev L8 := List UInt8
def bs (l : L8) : ByteArray := ⟨l.toArray⟩
theorem bs_size (l : L8) : (bs l).size = l.length := by simp [bs, ByteArray.size]
theorem bs_append (a b : L8) : bs a ++ bs b = bs (a ++ b) := by
  apply ByteArray.ext
  simp [bs]
theorem bs_list (s : ByteArray) : bs s.data.toList = s := by
  apply ByteArray.ext
  simp [bs]

def isSign (c : Nat) : Bool := decide (c ∈ [92, 40, 41, 91, 93, 123, 125, 46, 42, 43, 63, 124, 94, 36])
def hx (n : Nat) : UInt8 := UInt8.ofNat (if n < 10 then 48 + n else 87 + n)
/-- a byte, within a class or outside -/
def wr (c : Nat) (b : Bool) : L8 :=
  if isSign c || (b && (decide (c = 45) || decide (c = 47))) then [92, UInt8.ofNat c]
  else if c = 10 then [92, 110] else if c = 9 then [92, 116] else if c = 13 then [92, 114]
  else if 33 ≤ c ∧ c ≤ 126 then [UInt8.ofNat c] else [92, 120, hx (c / 16), hx (c % 16)]
theorem wr_len (c : Nat) (b : Bool) : 1 ≤ (wr c b).length ∧ (wr c b).length ≤ 4 := by
  unfold wr
  repeat' split
  all_goals simp

/-- how many more stand one behind the other -/
def rn : Nat → List Nat → Nat
  | _, [] => 0
  | p, x :: l => if x = p + 1 then rn x l + 1 else 0
theorem rn_le (p : Nat) (l : List Nat) : rn p l ≤ l.length := by
  induction l generalizing p with
  | nil => simp [rn]
  | cons x l ih =>
    unfold rn
    have := ih x
    split <;> simp <;> omega
/-- these are one behind the other -/
theorem rn_at (p : Nat) (l : List Nat) (i : Nat) (h : i < rn p l) (hl : i < l.length) : l[i] = p + 1 + i := by
  induction l generalizing p i with
  | nil => simp [rn] at h
  | cons x l ih =>
    unfold rn at h
    split at h
    · rename_i hx
      cases i with
      | zero => simp; exact hx
      | succ i =>
        have := ih x i (by omega) (by simpa using hl)
        simp only [List.getElem_cons_succ, this]
        omega
    · omega
/-- the next one isn't -/
theorem rn_end (p : Nat) (l : List Nat) (h : rn p l < l.length) : l[rn p l] ≠ p + 1 + rn p l := by
  induction l generalizing p with
  | nil => simp at h
  | cons x l ih =>
    by_cases hx : x = p + 1
    · have e : rn p (x :: l) = rn x l + 1 := by rw [rn, if_pos hx]
      simp only [e, List.length_cons] at h
      have := ih x (by omega)
      simp only [e, List.getElem_cons_succ]
      omega
    · have e : rn p (x :: l) = 0 := by rw [rn, if_neg hx]
      simp only [e, List.getElem_cons_zero]
      omega
/-- what is found by looking is that number -/
theorem rn_eq (p : Nat) (l : List Nat) (n : Nat) (hn : n ≤ l.length) (h1 : ∀ i, i < n → (hl : i < l.length) → l[i] = p + 1 + i) (h2 : (hl : n < l.length) → l[n] ≠ p + 1 + n) : rn p l = n := by
  have a := rn_le p l
  rcases Nat.lt_trichotomy (rn p l) n with hlt | heq | hgt
  · exact absurd (h1 _ hlt (by omega)) (rn_end p l (by omega))
  · exact heq
  · exact absurd (rn_at p l n hgt (by omega)) (h2 (by omega))
theorem rn_tail (c x : Nat) (l : List Nat) (h : 1 ≤ rn c (x :: l)) : rn x l + 1 = rn c (x :: l) := by
  by_cases hx : x = c + 1
  · rw [rn.eq_2, if_pos hx]
  · have e : rn c (x :: l) = 0 := by rw [rn.eq_2, if_neg hx]
    omega

/-- the parts of a class -/
def prt : Nat → List Nat → L8
  | 0, _ => []
  | _ + 1, [] => []
  | f + 1, c :: l => if 3 ≤ rn c l then wr c true ++ 45 :: wr (c + rn c l) true ++ prt f (l.drop (rn c l)) else wr c true ++ prt f l
theorem prt_fuel (f g : Nat) (l : List Nat) (hf : l.length ≤ f) (hg : l.length ≤ g) : prt f l = prt g l := by
  induction f generalizing g l with
  | zero =>
    have : l = [] := List.length_eq_zero_iff.1 (by omega)
    subst this
    cases g <;> rfl
  | succ f ih =>
    cases l with
    | nil => cases g <;> rfl
    | cons c l =>
      cases g with
      | zero => simp at hg
      | succ g =>
        simp only [List.length_cons] at hf hg
        have h1 : prt f (l.drop (rn c l)) = prt g (l.drop (rn c l)) := ih g _ (by simp; omega) (by simp; omega)
        have h2 : prt f l = prt g l := ih g _ (by omega) (by omega)
        simp only [prt, h1, h2]
def parts (l : List Nat) : L8 := prt l.length l
theorem parts_nil : parts [] = [] := rfl
theorem parts_cons (c : Nat) (l : List Nat) : parts (c :: l) = if 3 ≤ rn c l then wr c true ++ 45 :: wr (c + rn c l) true ++ parts (l.drop (rn c l)) else wr c true ++ parts l := by
  unfold parts
  simp only [List.length_cons, prt]
  rw [prt_fuel l.length (l.drop (rn c l)).length (l.drop (rn c l)) (by simp) (Nat.le_refl _)]
theorem parts_few (l : List Nat) (c : Nat) (h : rn c l < 3) : parts (c :: l) = (c :: l.take (rn c l)).flatMap (fun x => wr x true) ++ parts (l.drop (rn c l)) := by
  induction l generalizing c with
  | nil => simp [parts_cons, rn, parts_nil]
  | cons x l ih =>
    rw [parts_cons, if_neg (by omega)]
    by_cases h0 : rn c (x :: l) = 0
    · rw [h0]; simp
    · have ht := rn_tail c x l (by omega)
      have := ih x (by omega)
      rw [this, ← ht]
      simp
theorem prt_len (f : Nat) (l : List Nat) : (prt f l).length ≤ 4 * l.length := by
  induction f generalizing l with
  | zero => simp [prt]
  | succ f ih =>
    cases l with
    | nil => simp [prt]
    | cons c l =>
      have w1 := wr_len c true
      have w2 := wr_len (c + rn c l) true
      have i1 := ih (l.drop (rn c l))
      have i2 := ih l
      have hr := rn_le c l
      simp only [List.length_drop] at i1
      unfold prt
      split
      · simp only [List.length_append, List.length_cons]; omega
      · simp only [List.length_append, List.length_cons]; omega

def eq4 (q r : Q4) : Bool := decide (q.a = r.a) && decide (q.b = r.b) && decide (q.c = r.c) && decide (q.d = r.d)
theorem eq4_iff (q r : Q4) : eq4 q r = true ↔ q = r := by
  cases q; cases r
  simp [eq4, and_assoc]
def dotQ : Q4 := nt (ofl [10])
def nothingL : L8 := [91, 94, 92, 120, 48, 48, 45, 92, 120, 102, 102, 93]
def everyL : L8 := [91, 92, 120, 48, 48, 45, 92, 120, 102, 102, 93]
def setT (q : Q4) : L8 :=
  if cnt q = 1 then wr ((mem q).getD 0 0) false
  else if eq4 q dotQ then [46]
  else if cnt q = 0 then nothingL
  else if cnt q = 256 then everyL
  else if 128 < cnt q then 91 :: 94 :: parts (mem (nt q)) ++ [93]
  else 91 :: parts (mem q) ++ [93]
theorem mem_len (q : Q4) : (mem q).length ≤ 256 := cnt_le q
theorem setT_len (q : Q4) : (setT q).length ≤ 1027 := by
  have h1 := wr_len ((mem q).getD 0 0) false
  have h2 := prt_len (mem q).length (mem q)
  have h3 := prt_len (mem (nt q)).length (mem (nt q))
  have h4 := mem_len q
  have h5 := mem_len (nt q)
  have h6 : nothingL.length = 12 := rfl
  have h7 : everyL.length = 11 := rfl
  unfold setT parts
  generalize (mem q).getD 0 0 = x at *
  repeat' split
  all_goals (try simp only [List.length_append, List.length_cons, List.length_nil, h6, h7])
  all_goals omega
theorem dot_cnt : cnt dotQ = 255 := by decide +kernel

def dec (n : Int) : L8 := Lib.decDigits n.toNat
def timesT (mn mx : Int) : L8 :=
  if mn = 0 ∧ mx = -1 then [42] else if mn = 1 ∧ mx = -1 then [43] else if mn = 0 ∧ mx = 1 then [63]
  else if mx = -1 then 123 :: dec mn ++ [44, 125] else if mx = mn then 123 :: dec mn ++ [125] else 123 :: dec mn ++ 44 :: dec mx ++ [125]
theorem dec_len (n : Int) (h : n ≤ 20) : (dec n).length ≤ 2 := by
  unfold dec
  by_cases h1 : n.toNat < 10
  · rw [Lib.decDigits_one h1]; simp
  · rw [Lib.decDigits_two h1 (by omega)]; simp
theorem timesT_len (mn mx : Int) (h1 : mn ≤ 20) (h2 : mx ≤ 20) : (timesT mn mx).length ≤ 7 := by
  have := dec_len mn h1
  have := dec_len mx h2
  unfold timesT
  repeat' split
  all_goals simp
  all_goals omega

def par (b : Bool) (l : L8) : L8 := if b then 40 :: l ++ [41] else l
mutual
def txt : Tr → L8
  | .node k q mn mx l => if k = 1 then setT q else if k = 4 then reps l ++ timesT mn mx else txts k true l
def reps : List Tr → L8
  | [] => []
  | t :: _ => par (!decide (t.kind = 1)) (txt t)
def txts (k : Int) (first : Bool) : List Tr → L8
  | [] => []
  | t :: l => (if k = 3 ∧ first = false then [124] else []) ++ par (decide (k = 2) && decide (t.kind = 3)) (txt t) ++ txts k false l
end
def item (k : Int) (i : Nat) (t : Tr) : L8 := (if k = 3 ∧ 0 < i then [124] else []) ++ par (decide (k = 2) && decide (t.kind = 3)) (txt t)
theorem txts_append (k : Int) (f : Bool) (l : List Tr) (t : Tr) : txts k f (l ++ [t]) = txts k f l ++ ((if k = 3 ∧ (f = false ∨ 0 < l.length) then [124] else []) ++ par (decide (k = 2) && decide (t.kind = 3)) (txt t)) := by
  induction l generalizing f with
  | nil => simp [txts]
  | cons x l ih =>
    rw [List.cons_append, txts, ih, txts]
    simp
theorem txts_take (k : Int) (l : List Tr) (i : Nat) (h : i < l.length) : txts k true (l.take (i + 1)) = txts k true (l.take i) ++ item k i (nthT l i) := by
  rw [take_nthT l i h, txts_append]
  unfold item
  have : (l.take i).length = i := by simp; omega
  rw [this]
  simp
theorem txt_eq (t : Tr) : txt t = if t.kind = 1 then setT t.set else if t.kind = 4 then reps t.kids ++ timesT t.min t.max else txts t.kind true t.kids := by
  cases t
  rw [txt]
  rfl
theorem par_len (b : Bool) (l : L8) : (par b l).length ≤ l.length + 2 := by
  unfold par
  split <;> simp

/-- times that may be -/
theorem times_bounds {mn mx : Int} (h : timesOk mn mx = true) : 0 ≤ mn ∧ mn ≤ 20 ∧ -1 ≤ mx ∧ mx ≤ 20 := by
  unfold timesOk at h
  simp only [Bool.and_eq_true, Bool.or_eq_true, decide_eq_true_eq] at h
  omega
theorem ok_times {t : Tr} (h : okNode t = true) (hk : t.kind = 4) : timesOk t.min t.max = true ∧ t.kids.length = 1 := by
  unfold okNode at h
  rw [if_neg (by omega), if_neg (by omega), if_neg (by omega), if_pos hk] at h
  simp only [Bool.and_eq_true, decide_eq_true_eq] at h
  exact ⟨h.1.2, h.2⟩
theorem ok_kind {t : Tr} (h : okNode t = true) : t.kind = 1 ∨ t.kind = 2 ∨ t.kind = 3 ∨ t.kind = 4 := by
  unfold okNode at h
  by_cases h1 : t.kind = 1
  · exact .inl h1
  · by_cases h2 : t.kind = 2
    · exact .inr (.inl h2)
    · by_cases h3 : t.kind = 3
      · exact .inr (.inr (.inl h3))
      · by_cases h4 : t.kind = 4
        · exact .inr (.inr (.inr h4))
        · rw [if_neg h1, if_neg h2, if_neg h3, if_neg h4] at h
          simp at h
mutual
theorem txt_len : ∀ (t : Tr), t.good = true → (txt t).length + 3 ≤ 1030 * t.nodes
  | .node k q mn mx l, h => by
    have hg := Tr.good_eq (.node k q mn mx l)
    rw [h] at hg
    simp only [Tr.kids] at hg
    have hgl : goods l = true := by
      cases hx : goods l
      · rw [hx] at hg; simp at hg
      · rfl
    have hok : okNode (.node k q mn mx l) = true := by
      rw [hgl] at hg
      simpa using hg.symm
    have h1 := setT_len q
    have h2 := txts_len k true l hgl
    have h3 := reps_len l hgl
    simp only [txt, Tr.nodes]
    split
    · omega
    · split
      · rename_i hk
        have ht := ok_times hok hk
        have hb := times_bounds ht.1
        simp only [Tr.min, Tr.max] at hb
        have := timesT_len mn mx hb.2.1 hb.2.2.2
        simp only [List.length_append]
        omega
      · omega
theorem reps_len : ∀ (l : List Tr), goods l = true → (reps l).length ≤ 1030 * nodesOf l
  | [], _ => by simp [reps]
  | t :: l, h => by
    simp only [goods, Bool.and_eq_true] at h
    have h1 := txt_len t h.1
    have h2 := par_len (!decide (t.kind = 1)) (txt t)
    simp only [reps, nodesOf]
    omega
theorem txts_len : ∀ (k : Int) (f : Bool) (l : List Tr), goods l = true → (txts k f l).length ≤ 1030 * nodesOf l
  | _, _, [], _ => by simp [txts]
  | k, f, t :: l, h => by
    simp only [goods, Bool.and_eq_true] at h
    have h1 := txt_len t h.1
    have h2 := par_len (decide (k = 2) && decide (t.kind = 3)) (txt t)
    have h3 := txts_len k false l h.2
    have h4 : (if k = 3 ∧ f = false then ([124] : L8) else []).length ≤ 1 := by split <;> simp
    simp only [txts, nodesOf, List.length_append]
    omega
end
/-- Print's answer -/
def outT (t : Tr) : L8 := if rightOf t = 0 ∧ (txt t).length ≤ 512 then txt t else []
def errT (t : Tr) : Int := if rightOf t = 0 then (if (txt t).length ≤ 512 then 0 else 2) else rightOf t
end Go.Proofs.YtfclidcfhadohaaDoor.rp
