/-
  Plain mathematics, without the program: instructions, the kinds of their fields, their letters, which may be.
-/
namespace Go.Proofs.YtdekkjnlmlkbdaaDoor.is

structure In where
  op : Int
  a : Int
  b : Int
  c : Int
  d : Int

theorem In.ext {x y : In} (h0 : x.op = y.op) (h1 : x.a = y.a) (h2 : x.b = y.b) (h3 : x.c = y.c) (h4 : x.d = y.d) : x = y := by cases x; cases y; simp_all

def kds : List (List Nat) := [[0,0,0,0],[0,0,0,0],[1,5,0,0],[1,1,0,0],[0,0,4,0],[1,5,4,0],[1,5,4,0],[1,0,4,0],[1,1,0,3],[2,0,0,0],[2,0,0,0],[2,0,4,0],[1,0,0,0],[1,1,0,0],[0,0,0,0],[1,0,0,0],[0,0,0,0],[1,0,0,0]]
def wrds : List (List UInt8) := [[], [104, 97, 108, 116], [108, 111, 97, 100], [109, 111, 118, 101], [106, 117, 109, 112], [115, 97, 109, 101], [108, 101, 115, 115], [110, 101, 120, 116], [108, 111, 111, 107], [109, 97, 114, 107], [98, 97, 99, 107], [104, 101, 114, 101], [99, 111, 112, 121], [116, 101, 120, 116], [116, 117, 114, 110], [115, 105, 103, 110], [106, 111, 105, 110], [101, 109, 105, 116]]
def mosts : List Nat := [0, 7, 1, 15, 4095, 1073741824]
def sgns : List (List UInt8) := [[], [114], [109], [116], [64], []]

/-- the kind of a field -/
def kd (op f : Nat) : Nat := (kds.getD op []).getD f 0
def wrd (op : Nat) : List UInt8 := wrds.getD op []
def most (k : Nat) : Nat := mosts.getD k 0
def sgn (k : Nat) : List UInt8 := sgns.getD k []

theorem kd_lt (op f : Nat) : kd op f < 6 := by
  by_cases h : op < 18
  · by_cases h2 : f < 4
    · have : ∀ x : Fin 18, ∀ y : Fin 4, kd x y < 6 := by decide
      exact this ⟨op, h⟩ ⟨f, h2⟩
    · have h3 : (kds.getD op []).length ≤ f := by
        have : ∀ x : Fin 18, (kds.getD x []).length ≤ 4 := by decide
        have := this ⟨op, h⟩
        simp at this ⊢; omega
      unfold kd
      rw [List.getD_eq_getElem?_getD, List.getElem?_eq_none h3]
      decide
  · unfold kd
    rw [List.getD_eq_getElem?_getD (l := kds), List.getElem?_eq_none (by simp [kds]; omega)]
    simp
theorem most_lt (k : Nat) : most k ≤ 1073741824 := by
  by_cases h : k < 6
  · have : ∀ x : Fin 6, most x ≤ 1073741824 := by decide
    exact this ⟨k, h⟩
  · unfold most
    rw [List.getD_eq_getElem?_getD, List.getElem?_eq_none (by simp [mosts]; omega)]
    decide

def fld (i : In) (f : Nat) : Int := if f = 0 then i.a else if f = 1 then i.b else if f = 2 then i.c else i.d
def okF (i : In) (f : Nat) : Bool := decide (0 ≤ fld i f) && decide (fld i f ≤ most (kd i.op.toNat f))
def okOp (i : In) : Bool := decide (1 ≤ i.op) && decide (i.op ≤ 17)
/-- an instruction may be -/
def okI (i : In) : Bool := okOp i && okF i 0 && okF i 1 && okF i 2 && okF i 3

theorem okI_of {i : In} (h0 : okOp i = true) (h : ∀ f, f < 4 → okF i f = true) : okI i = true := by
  unfold okI; rw [h0, h 0 (by omega), h 1 (by omega), h 2 (by omega), h 3 (by omega)]; rfl
theorem okI_not {i : In} {f : Nat} (hf : f < 4) (h : okF i f = false) : okI i = false := by
  unfold okI
  rcases (by omega : f = 0 ∨ f = 1 ∨ f = 2 ∨ f = 3) with rfl | rfl | rfl | rfl <;> rw [h] <;> simp
theorem okI_no {i : In} (h : okOp i = false) : okI i = false := by unfold okI; rw [h]; rfl

/-! the document's letters -/
def letss : List (List Nat) := [[], [], [97, 110], [97, 98], [112], [97, 110, 112], [97, 110, 112], [97, 112], [97, 98, 116], [107], [107], [107, 112], [97], [97, 98], [], [97], [], [97]]
def lets (op : Nat) : List Nat := letss.getD op []
def valC (i : In) (c : Nat) : Int := if c = 97 ∨ c = 107 then i.a else if c = 98 ∨ c = 110 then i.b else if c = 112 then i.c else i.d
def withC (i : In) (c : Nat) (v : Int) : In :=
  if c = 97 ∨ c = 107 then ⟨i.op, v, i.b, i.c, i.d⟩ else if c = 98 ∨ c = 110 then ⟨i.op, i.a, v, i.c, i.d⟩ else if c = 112 then ⟨i.op, i.a, i.b, v, i.d⟩ else if c = 116 then ⟨i.op, i.a, i.b, i.c, v⟩ else i
def mostC (c : Nat) : Nat := if c = 97 ∨ c = 98 then 7 else if c = 107 then 1 else if c = 110 then 1073741824 else if c = 112 then 4095 else 15
def okC (i : In) (c : Nat) : Bool := decide (0 ≤ valC i c) && decide (valC i c ≤ mostC c)
/-- only the named fields -/
def bare (i : In) (l : List Nat) : In := l.foldl (fun b c => withC b c (valC i c)) ⟨i.op, 0, 0, 0, 0⟩
theorem bare_snoc (i : In) (l : List Nat) (c : Nat) : bare i (l ++ [c]) = withC (bare i l) c (valC i c) := by simp [bare]
def sameI (x y : In) : Bool := x.op == y.op && x.a == y.a && x.b == y.b && x.c == y.c && x.d == y.d
theorem sameI_iff (x y : In) : sameI x y = true ↔ x = y := by
  cases x; cases y; simp [sameI, and_assoc]

theorem lets_lt (op : Nat) (h : op < 18) : ∀ c ∈ lets op, c < 256 := by
  have : ∀ x : Fin 18, ∀ c ∈ lets x, c < 256 := by decide
  exact this ⟨op, h⟩

theorem rok_same (i : In) (h : okOp i = true) : okI i = ((lets i.op.toNat).all (okC i) && sameI (bare i (lets i.op.toNat)) i) := by
  obtain ⟨op, a, b, c, d⟩ := i
  simp only [okOp, Bool.and_eq_true, decide_eq_true_eq] at h
  rcases (by omega : op = 1 ∨ op = 2 ∨ op = 3 ∨ op = 4 ∨ op = 5 ∨ op = 6 ∨ op = 7 ∨ op = 8 ∨ op = 9 ∨ op = 10 ∨ op = 11 ∨ op = 12 ∨ op = 13 ∨ op = 14 ∨ op = 15 ∨ op = 16 ∨ op = 17) with
    rfl | rfl | rfl | rfl | rfl | rfl | rfl | rfl | rfl | rfl | rfl | rfl | rfl | rfl | rfl | rfl | rfl <;>
  (rw [Bool.eq_iff_iff]
   simp [okI, okOp, okF, fld, kd, kds, most, mosts, lets, letss, okC, valC, mostC, bare, withC, sameI]
   omega)
end Go.Proofs.YtdekkjnlmlkbdaaDoor.is
