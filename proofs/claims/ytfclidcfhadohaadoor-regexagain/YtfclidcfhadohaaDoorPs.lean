/-
  Plain mathematics, no program: the reading of an expression, over a list of bytes: a tree and what is left, or an error and what is left where it stands.
-/
import Derived.Test.YtfclidcfhadohaaDoorTree
import Derived.Test.YtfclidcfhadohaaDoorRng
namespace Go.Proofs.YtfclidcfhadohaaDoor.st
set_option linter.unusedVariables false

/-- what is read, and what is left; or the error, and what is left at its place -/
inductive R (α : Type) where
  | ok (a : α) (l : List Nat)
  | bad (e : Nat) (l : List Nat)

def R.then {α β : Type} (r : R α) (f : α → List Nat → R β) : R β :=
  match r with
  | .ok a l => f a l
  | .bad e l => .bad e l

def signs : List Nat := [92, 40, 41, 91, 93, 123, 125, 46, 42, 43, 63, 124, 94, 36]
def behind : List Nat := [92, 40, 41, 91, 93, 123, 125, 46, 42, 43, 63, 124, 94, 36, 45, 47]
def escapes : List Nat := [92, 40, 41, 91, 93, 123, 125, 46, 42, 43, 63, 124, 94, 36, 45, 47, 110, 116, 114, 120]
def outside : List Nat := [92, 93, 45]
def digits : List Nat := [48, 49, 50, 51, 52, 53, 54, 55, 56, 57]
def hexes : List Nat := [48, 49, 50, 51, 52, 53, 54, 55, 56, 57, 97, 98, 99, 100, 101, 102, 65, 66, 67, 68, 69, 70]

def sees (s : List Nat) : List Nat → Bool
  | [] => false
  | c :: _ => decide (c ∈ s)
def step : List Nat → R Nat
  | [] => .bad 60 []
  | c :: l => .ok c l
def oneOf (s : List Nat) (l : List Nat) : R Nat := if sees s l then step l else .bad 60 l
def noneOf (s : List Nat) (l : List Nat) : R Nat := if sees s l then .bad 60 l else step l

def hexv (c : Nat) : Nat := if 97 ≤ c then c - 87 else if 65 ≤ c then c - 55 else c - 48
def hex (l : List Nat) : R Nat := (oneOf hexes l).then fun c l => .ok (hexv c) l
def one (l : List Nat) : R Nat := (oneOf escapes l).then fun c l =>
  if c = 110 then .ok 10 l else if c = 116 then .ok 9 l else if c = 114 then .ok 13 l
  else if c = 120 then (hex l).then fun a l => (hex l).then fun b l => .ok (16 * a + b) l
  else .ok c l
def point (s : List Nat) (l : List Nat) : R Nat := if sees [92] l then one l.tail else noneOf s l

def digitSet : Q4 := ofl digits
def letterSet : Q4 := jn (rng 65 90) (rng 97 122)
def wordSet : Q4 := jn (jn digitSet letterSet) (rng 95 95)
def blankSet : Q4 := ofl [9, 10, 11, 12, 13, 32]
def kindOf (c : Nat) : Option Q4 :=
  if c = 100 then some digitSet else if c = 119 then some wordSet else if c = 115 then some blankSet
  else if c = 68 then some (nt digitSet) else if c = 87 then some (nt wordSet) else if c = 83 then some (nt blankSet) else none
/-- a backslash and a kind, and what is left; or nothing -/
def kind : List Nat → Option (Q4 × List Nat)
  | a :: c :: l => if a = 92 then (kindOf c).map fun q => (q, l) else none
  | _ => none
def part (l : List Nat) : R Q4 :=
  match kind l with
  | some x => .ok x.1 x.2
  | none => (point outside l).then fun a l1 =>
    if sees [45] l1 then (point outside l1.tail).then fun b l2 => if b < a then .bad 60 l1.tail else .ok (rng a b) l2
    else .ok (rng a a) l1
def parts (n : Nat) (q : Q4) (l : List Nat) : R Q4 :=
  match n with
  | 0 => .bad 0 []
  | n + 1 => if sees [93] l then .ok q l.tail else (part l).then fun r l1 => parts n (jn q r) l1
def cls (l : List Nat) : R Q4 :=
  let others := sees [94] l
  let l := if others then l.tail else l
  (part l).then fun q l1 => (parts (l1.length + 1) q l1).then fun q l2 => .ok (if others then nt q else q) l2
def dotSet : Q4 := nt (ofl [10])
def single (l : List Nat) : R Q4 :=
  if sees [91] l then cls l.tail
  else if sees [46] l then .ok dotSet l.tail
  else match kind l with
    | some x => .ok x.1 x.2
    | none => (point signs l).then fun b l1 => .ok (rng b b) l1

def num (least : Nat) (l : List Nat) : R Nat := (oneOf digits l).then fun c l1 =>
  let more := sees digits l1
  let n := if more then 10 * (c - 48) + (l1.headD 0 - 48) else c - 48
  if n < least ∨ 20 < n then .bad 60 l else .ok n (if more then l1.tail else l1)
def bounds (l : List Nat) : R (Int × Int) := (num 0 l).then fun a l1 =>
  if sees [44] l1 then
    if sees digits l1.tail then (num a l1.tail).then fun b l2 => (oneOf [125] l2).then fun _ l3 => .ok ((a : Int), (b : Int)) l3
    else (oneOf [125] l1.tail).then fun _ l3 => .ok ((a : Int), -1) l3
  else (oneOf [125] l1).then fun _ l3 => .ok ((a : Int), (a : Int)) l3
def times (l : List Nat) : R (Int × Int) := (step l).then fun c l1 =>
  if c = 42 then .ok (0, -1) l1 else if c = 43 then .ok (1, -1) l1 else if c = 63 then .ok (0, 1) l1 else bounds l1

def again (t : Tr) (x : Int × Int) : Tr := if x.1 = 1 ∧ x.2 = 1 then t else .node 4 none4 x.1 x.2 [t]
def rpts (n : Nat) (t : Tr) (l : List Nat) : R Tr :=
  match n with
  | 0 => .bad 0 []
  | n + 1 => if sees [42, 43, 63, 123] l then (times l).then fun x l1 => rpts n (again t x) l1 else .ok t l

def laid (ks : List Tr) (t : Tr) (k : Int) : List Tr := if t.kind = k then ks ++ t.kids else ks ++ [t]
def grown (k : Int) (ks : List Tr) : Tr := if ks.length = 1 then nthT ks 0 else .node k none4 0 0 ks

def atom (group : List Nat → R Tr) (l : List Nat) : R Tr := if sees [40] l then group l else (single l).then fun q l1 => .ok (.node 1 q 0 0 []) l1
def item (group : List Nat → R Tr) (l : List Nat) : R Tr := (atom group l).then fun t l1 => rpts (l1.length + 1) t l1
def items (group : List Nat → R Tr) (n : Nat) (ks : List Tr) (l : List Nat) : R Tr :=
  match n with
  | 0 => .bad 0 []
  | n + 1 => if l = [] ∨ sees [124, 41] l then .ok (grown 2 ks) l else (item group l).then fun t l1 => items group n (laid ks t 2) l1
def cat (group : List Nat → R Tr) (l : List Nat) : R Tr := items group (l.length + 1) [] l
def alts (group : List Nat → R Tr) (n : Nat) (ks : List Tr) (l : List Nat) : R Tr :=
  match n with
  | 0 => .bad 0 []
  | n + 1 => if sees [124] l then (cat group l.tail).then fun t l1 => alts group n (laid ks t 3) l1 else .ok (grown 3 ks) l
def altOf (group : List Nat → R Tr) (l : List Nat) : R Tr := (cat group l).then fun t l1 => alts group (l1.length + 1) (laid [] t 3) l1
/-- a group, where so many more may be opened -/
def group : Nat → List Nat → R Tr
  | 0, l => .bad 2 l
  | d + 1, l => (oneOf [40] l).then fun _ l1 => (altOf (group d) l1).then fun t l2 => (oneOf [41] l2).then fun _ l3 => .ok t l3
def alt (d : Nat) (l : List Nat) : R Tr := altOf (group d) l

/-- the whole: a tree, or the error and its place -/
def parse (l : List Nat) : Tr × Nat × Nat :=
  if 512 < l.length then (Tr.zero, 2, 0)
  else match alt 30 l with
    | .bad e r => (Tr.zero, e, l.length - r.length)
    | .ok t r => if r ≠ [] then (Tr.zero, 60, l.length - r.length) else if t.depth ≤ 30 then (t, 0, 0) else (Tr.zero, 2, 0)
end Go.Proofs.YtfclidcfhadohaaDoor.st
