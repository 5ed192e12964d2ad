/-
  Texts put together: Plain mathematics: sets of bytes that are handed on over Free edges, until nothing more comes (builder.spread). Over this program: two statements of builder.spread, in all their orders.
-/
import Derived.Test.YtfilndgbgdnpiaaM22
import Derived.Test.YtfilndgbgdnpiaaM23
import Derived.Test.YtfilndgbgdnpiaaM26
import Derived.Deep.MidRow
import Derived.Laws.StructEq
import Derived.ChangeKeysEq
namespace Go.Proofs.Ytfilndgbgdnpiaa.bd
open nf (Nfa Ed Over Rt hasE setOf)
open st (Q4 none4 Fits has nth jn cnt mem)
set_option linter.unusedVariables false

theorem filter_le {p r : Nat → Bool} : ∀ (l : List Nat), (∀ x ∈ l, p x = true → r x = true) → (l.filter p).length ≤ (l.filter r).length
  | [], _ => Nat.le_refl _
  | x :: l, h => by
    have ih := filter_le l fun y hy => h y (List.mem_cons_of_mem _ hy)
    have hx := h x List.mem_cons_self
    rw [List.filter_cons, List.filter_cons]
    cases hp : p x with
    | true => rw [hx hp]; simpa using ih
    | false =>
      cases hr : r x with
      | true => simp; omega
      | false => simpa using ih
theorem filter_lt {p r : Nat → Bool} : ∀ (l : List Nat), (∀ x ∈ l, p x = true → r x = true) → (∃ x ∈ l, p x = false ∧ r x = true) → (l.filter p).length < (l.filter r).length
  | [], _, ⟨x, hx, _⟩ => by simp at hx
  | x :: l, h, ⟨y, hy, hp, hr⟩ => by
    rw [List.filter_cons, List.filter_cons]
    rcases List.mem_cons.1 hy with e | hy
    · subst e
      have ih := filter_le l fun y hy => h y (List.mem_cons_of_mem _ hy)
      rw [hp, hr]
      simp
      omega
    · have ih := filter_lt l (fun y hy => h y (List.mem_cons_of_mem _ hy)) ⟨y, hy, hp, hr⟩
      have hx := h x List.mem_cons_self
      cases hp : p x with
      | true => rw [hx hp]; simpa using ih
      | false =>
        cases hr : r x with
        | true => simp; omega
        | false => simpa using ih
theorem cnt_more {q r : Q4} (hq : Fits q) (hr : Fits r) (h : jn q r ≠ q) : cnt q < cnt (jn q r) := by
  unfold cnt mem
  refine filter_lt _ (fun x hx hp => ?_) ?_
  · rw [st.has_jn q r x (List.mem_range.1 hx), hp]; rfl
  · by_cases e : ∃ x, x < 256 ∧ has q x = false ∧ has (jn q r) x = true
    · obtain ⟨x, h1, h2, h3⟩ := e
      exact ⟨x, List.mem_range.2 h1, h2, h3⟩
    · exfalso
      refine h (st.ext (st.fits_jn hq hr) hq fun x hx => ?_)
      cases hp : has q x with
      | true => rw [st.has_jn q r x hx, hp]; rfl
      | false =>
        cases hj : has (jn q r) x with
        | true => exact absurd ⟨x, hx, hp, hj⟩ e
        | false => rfl
theorem jn_self {q : Q4} (h : Fits q) : jn q q = q := st.ext (st.fits_jn h h) h fun n hn => by rw [st.has_jn q q n hn, Bool.or_self]

def miss (R : List Q4) : Nat := (R.map fun q => 256 - cnt q).sum
theorem miss_set : ∀ (R : List Q4) (i : Nat) (hi : i < R.length) (q : Q4), cnt R[i] < cnt q → miss (R.set i q) < miss R
  | [], i, hi, _, _ => by simp at hi
  | r :: R, 0, _, q, h => by
    have := st.cnt_le q
    simp at h
    simp [miss]
    omega
  | r :: R, i + 1, hi, q, h => by
    have := miss_set R i (by simpa using hi) q (by simpa using h)
    simp [miss] at this ⊢
    omega
theorem nth_get (R : List Q4) (i : Nat) (h : i < R.length) : nth R i = R[i] := by unfold nth; rw [List.getD_eq_getElem?_getD, List.getElem?_eq_getElem h]; rfl
theorem nth_set (R : List Q4) (i j : Nat) (q : Q4) (hi : i < R.length) (hj : j < R.length) : nth (R.set i q) j = if j = i then q else nth R j := by
  rw [nth_get _ _ (by simpa using hj), nth_get _ _ hj, List.getElem_set]
  by_cases e : i = j
  · rw [if_pos e, if_pos e.symm]
  · rw [if_neg e, if_neg (Ne.symm e)]
theorem fits_nth {R : List Q4} (hf : ∀ q ∈ R, Fits q) (i : Nat) (h : i < R.length) : Fits (nth R i) := by rw [nth_get _ _ h]; exact hf _ (List.getElem_mem h)
theorem fits_set {R : List Q4} (hf : ∀ q ∈ R, Fits q) (i : Nat) {q : Q4} (hq : Fits q) : ∀ r ∈ R.set i q, Fits r := fun r hr => by
  rcases List.mem_or_eq_of_mem_set hr with h | h
  · exact hf r h
  · rw [h]; exact hq

/-- where a byte lies -/
def At (R : List Q4) (c : Nat) (t : Int) : Prop := ∃ j : Nat, j < R.length ∧ t = (j : Int) ∧ has (nth R j) c = true
/-- the targets of a state's Free edges -/
def Tgt (x : Nfa) (n : Nat) (F : Nat → List Int) : Prop := ∀ s, s < n → ∀ t, t ∈ F s ↔ ∃ e ∈ x.edges, e.free = true ∧ e.fr = (s : Int) ∧ e.to = t
structure Hand (x : Nfa) (n : Nat) (F : Nat → List Int) (R0 R : List Q4) (q : List Int) (s : Nat) (p : List Int) : Prop where
  len : R.length = n
  fits : ∀ q ∈ R, Fits q
  base : ∀ i c, i < n → c < 256 → has (nth R0 i) c = true → has (nth R i) c = true
  snd : ∀ i c, i < n → c < 256 → has (nth R i) c = true → nf.Reach x (At R0 c) (i : Int)
  cls : ∀ i, i < n → (i : Int) ∉ q → i ≠ s → ∀ t : Nat, (t : Int) ∈ F i → ∀ c, c < 256 → has (nth R i) c = true → has (nth R t) c = true
  own : ∀ t : Nat, (t : Int) ∈ p → ∀ c, c < 256 → has (nth R s) c = true → has (nth R t) c = true
  rng : ∀ t ∈ q, 0 ≤ t ∧ t < (n : Int)
section
variable {x : Nfa} {n : Nat} {F : Nat → List Int} {R0 R : List Q4} {q : List Int} {s : Nat} {p : List Int}
theorem Hand.same (h : Hand x n F R0 R q s p) {t : Nat} (ht : t < n) (hs : s < n) (he : jn (nth R t) (nth R s) = nth R t) : Hand x n F R0 R q s (p ++ [(t : Int)]) :=
  ⟨h.len, h.fits, h.base, h.snd, h.cls, fun u hu c hc hh => by
    rcases List.mem_append.1 hu with h1 | h1
    · exact h.own u h1 c hc hh
    · have e : u = t := by have := List.mem_singleton.1 h1; omega
      rw [e, ← he, st.has_jn _ _ c hc, hh, Bool.or_true], h.rng⟩
theorem Hand.more (R1 : Rt x n) (hF : Tgt x n F) (h : Hand x n F R0 R q s p) {t : Nat} (ht : t < n) (hs : s < n) (hm : (t : Int) ∈ F s) (he : jn (nth R t) (nth R s) ≠ nth R t) : Hand x n F R0 (R.set t (jn (nth R t) (nth R s))) (q ++ [(t : Int)]) s (p ++ [(t : Int)]) := by
  have hl := h.len
  have hts : t ≠ s := fun e => he (by rw [e]; exact jn_self (fits_nth h.fits s (by omega)))
  have g : ∀ j, j < n → nth (R.set t (jn (nth R t) (nth R s))) j = if j = t then jn (nth R t) (nth R s) else nth R j := fun j hj => nth_set R t j _ (by omega) (by omega)
  have up : ∀ j c, j < n → c < 256 → has (nth R j) c = true → has (nth (R.set t (jn (nth R t) (nth R s))) j) c = true := fun j c hj hc hh => by
    rw [g j hj]
    by_cases e : j = t
    · rw [if_pos e, st.has_jn _ _ c hc, ← e, hh, Bool.true_or]
    · rw [if_neg e]; exact hh
  have tn : ∀ i, i < n → ∀ u : Nat, (u : Int) ∈ F i → u < n := fun i hi u hu => by
    obtain ⟨e, he1, _, _, he2⟩ := (hF i hi _).1 hu
    have := R1.to e he1
    omega
  refine ⟨by simpa using hl, fits_set h.fits t (st.fits_jn (fits_nth h.fits t (by omega)) (fits_nth h.fits s (by omega))), fun i c hi hc hh => up i c hi hc (h.base i c hi hc hh), fun i c hi hc hh => ?_, fun i hi hn hne u hu c hc hh => ?_, fun u hu c hc hh => ?_, fun u hu => ?_⟩
  · rw [g i hi] at hh
    by_cases e : i = t
    · rw [if_pos e, st.has_jn _ _ c hc, Bool.or_eq_true] at hh
      rcases hh with h1 | h1
      · rw [e]; exact h.snd t c ht hc h1
      · obtain ⟨ed, a1, a2, a3, a4⟩ := (hF s hs _).1 hm
        have := nf.Reach.step (x := x) (P := At R0 c) (e := ed) (by rw [a3]; exact h.snd s c hs hc h1) a1 a2
        rw [a4] at this
        rw [e]; exact this
    · rw [if_neg e] at hh; exact h.snd i c hi hc hh
  · have hit : i ≠ t := fun e => hn (List.mem_append_right _ (by rw [e]; exact List.mem_singleton_self _))
    rw [g i hi, if_neg hit] at hh
    exact up u c (tn i hi u hu) hc (h.cls i hi (fun e => hn (List.mem_append_left _ e)) hne u hu c hc hh)
  · rw [g s hs, if_neg (Ne.symm hts)] at hh
    rcases List.mem_append.1 hu with h1 | h1
    · by_cases hu2 : u < n
      · exact up u c hu2 hc (h.own u h1 c hc hh)
      · have := h.own u h1 c hc hh
        unfold nth at this ⊢
        rw [List.getD_eq_getElem?_getD, List.getElem?_eq_none (by simp; omega)]
        rw [List.getD_eq_getElem?_getD, List.getElem?_eq_none (by omega)] at this
        exact this
    · have e : u = t := by have := List.mem_singleton.1 h1; omega
      rw [e, g t ht, if_pos rfl, st.has_jn _ _ c hc, hh, Bool.or_true]
  · rcases List.mem_append.1 hu with h1 | h1
    · exact h.rng u h1
    · rw [List.mem_singleton.1 h1]; omega
end
/-- between two states -/
structure Held (x : Nfa) (n : Nat) (F : Nat → List Int) (R0 R : List Q4) (q : List Int) : Prop where
  len : R.length = n
  fits : ∀ q ∈ R, Fits q
  base : ∀ i c, i < n → c < 256 → has (nth R0 i) c = true → has (nth R i) c = true
  snd : ∀ i c, i < n → c < 256 → has (nth R i) c = true → nf.Reach x (At R0 c) (i : Int)
  cls : ∀ i, i < n → (i : Int) ∉ q → ∀ t : Nat, (t : Int) ∈ F i → ∀ c, c < 256 → has (nth R i) c = true → has (nth R t) c = true
  rng : ∀ t ∈ q, 0 ≤ t ∧ t < (n : Int)
theorem Held.pop {x : Nfa} {n : Nat} {F : Nat → List Int} {R0 R : List Q4} {q : List Int} {s : Nat} (h : Held x n F R0 R (q ++ [(s : Int)])) : Hand x n F R0 R q s [] :=
  ⟨h.len, h.fits, h.base, h.snd, fun i hi hn hne => h.cls i hi fun hm => by
    rcases List.mem_append.1 hm with h1 | h1
    · exact hn h1
    · exact hne (by have := List.mem_singleton.1 h1; omega), fun t ht => by simp at ht, fun t ht => h.rng t (List.mem_append_left _ ht)⟩
theorem Hand.done {x : Nfa} {n : Nat} {F : Nat → List Int} {R0 R : List Q4} {q : List Int} {s : Nat} (h : Hand x n F R0 R q s (F s)) : Held x n F R0 R q :=
  ⟨h.len, h.fits, h.base, h.snd, fun i hi hn t ht c hc hh => by
    by_cases e : i = s
    · rw [e] at hh ht; exact h.own t ht c hc hh
    · exact h.cls i hi hn e t ht c hc hh, h.rng⟩
theorem Held.all {x : Nfa} {n : Nat} (R1 : Rt x n) {F : Nat → List Int} (hF : Tgt x n F) {R0 R : List Q4} (hl0 : R0.length = n) (h : Held x n F R0 R []) (i c : Nat) (hi : i < n) (hc : c < 256) : has (nth R i) c = true ↔ nf.Reach x (At R0 c) (i : Int) := by
  refine ⟨h.snd i c hi hc, fun r => ?_⟩
  have key : ∃ j : Nat, j < n ∧ (i : Int) = (j : Int) ∧ has (nth R j) c = true := by
    refine r.least (Q := fun t => ∃ j : Nat, j < n ∧ t = (j : Int) ∧ has (nth R j) c = true) ?_ ?_
    · rintro t ⟨j, h1, h2, h3⟩
      exact ⟨j, by omega, h2, h.base j c (by omega) hc h3⟩
    · rintro e he hf ⟨j, h1, h2, h3⟩
      have ht := R1.to e he
      refine ⟨e.to.toNat, by omega, by omega, h.cls j h1 (by simp) e.to.toNat ((hF j h1 _).2 ⟨e, he, hf, h2, by omega⟩) c hc h3⟩
  obtain ⟨j, h1, h2, h3⟩ := key
  have : i = j := by omega
  rw [this]; exact h3
end Go.Proofs.Ytfilndgbgdnpiaa.bd

namespace Go.Proofs.Ytfilndgbgdnpiaa.bd
open Go.Sort Go.ChangeShapes Go.WideShapes Go.ChangeAt Go.RowKit Go.Maps
open df (Kp Row iv In IntsV Owns)
open st (Q4 none4 Fits has nth jn Blk)
set_option linter.unusedVariables false
set_option maxRecDepth 10000

abbrev V4 (q : Q4) : Value := .agg #[.int .u64 q.a, .int .u64 q.b, .int .u64 q.c, .int .u64 q.d]
def eq4 (a b c d a' b' c' d' : Int) : Bool := a == a' && (b == b' && (c == c' && d == d'))
theorem info22 : (Try.prog.info? 22).map (fun i => (i.zero, i.size, i.bytes)) = some (some (.int .u64 0), 1, 8) := by kernel_rfl
theorem eq58 (a b c d a' b' c' d' : Int) (W : World) : (Op.equalIn 9999 23 (.agg #[.int .u64 a, .int .u64 b, .int .u64 c, .int .u64 d]) (.agg #[.int .u64 a', .int .u64 b', .int .u64 c', .int .u64 d'])).run Try.prog W = .ok (eq4 a b c d a' b' c' d') W := by
  obtain ⟨i, hi, _, _, _⟩ := info_parts info22
  have c22 : Try.prog.cellsOf 22 = 1 := by kernel_rfl
  have r4 : List.range 4 = [0, 1, 2, 3] := rfl
  have he : ∀ x y : Int, (Op.equalIn 9998 22 (.int .u64 x) (.int .u64 y)).run Try.prog W = .ok (x == y) W := fun x y => run_equalIn_int W 9997 22 .u64 .u64 x y Try.underlying22
  rw [run_equalIn_array W 9998 _ _ Try.underlying23 hi, c22, r4]
  unfold eq4
  cases h1 : a == a' <;> cases h2 : b == b' <;> cases h3 : c == c' <;> cases h4 : d == d' <;> simp [Op.eqItems, part, Try.isAgg22, he, h1, h2, h3, h4]
theorem eq4_iff {q r : Q4} : eq4 q.a q.b q.c q.d r.a r.b r.c r.d = decide (q = r) := by
  unfold eq4
  cases q; cases r
  rw [Bool.eq_iff_iff]
  simp
  omega
section
variable {o : Oper} {a : Act} {w : World}
theorem four_at {w : World} {b off : Nat} {q : Q4} (hc : w.cell? ⟨b, off, none⟩ = some (.int .u64 q.a) ∧ w.cell? ⟨b, off + 1, none⟩ = some (.int .u64 q.b) ∧ w.cell? ⟨b, off + 2, none⟩ = some (.int .u64 q.c) ∧ w.cell? ⟨b, off + 3, none⟩ = some (.int .u64 q.d)) : w.rangeAt b off [.int .u64 q.a, .int .u64 q.b, .int .u64 q.c, .int .u64 q.d] := by
  intro j v hv
  match j, hv with
  | 0, hv => simp at hv; subst hv; exact hc.1
  | 1, hv => simp at hv; subst hv; exact hc.2.1
  | 2, hv => simp at hv; subst hv; exact hc.2.2.1
  | 3, hv => simp at hv; subst hv; exact hc.2.2.2
  | j + 4, hv => simp at hv
theorem x_load60 {x : Operand} {b off : Nat} {q : Q4} (h : o.op = .load 25 x) (hx : a.eval x = .pointer (some ⟨b, off, none⟩)) (hc : w.cell? ⟨b, off, none⟩ = some (.int .u64 q.a) ∧ w.cell? ⟨b, off + 1, none⟩ = some (.int .u64 q.b) ∧ w.cell? ⟨b, off + 2, none⟩ = some (.int .u64 q.c) ∧ w.cell? ⟨b, off + 3, none⟩ = some (.int .u64 q.d)) :
    (execOp a.eval o).run Try.prog w = .ok (.value (V4 q)) w := by
  unfold execOp; rw [h]
  simp only [hx, Sem.run_bind, run_loadAt_mid (P := Try.prog) w b off 25 _ _ (four_at hc) Try.underlying25 rfl (by kernel_rfl), Result.andThen_ok, Sem.run_pure]
theorem x_index113 {x y : Operand} {b n cap i : Nat} (h : o.op = .indexAddr 113 x y) (hx : a.eval x = .slice (some ⟨b, 0, none⟩) n cap) (hy : a.eval y = .int .i64 (i : Int)) (hi : i < n) : (execOp a.eval o).run Try.prog w = .ok (.value (.pointer (some ⟨b, i * 4, none⟩))) w := by
  unfold execOp; rw [h]
  obtain ⟨i0, hi0, hz0, hz1, hz2⟩ := info_parts st.info25
  have hs : (sizeOf 25).run Try.prog w = .ok 4 w := by simp [sizeOf, typeInfo, hi0, hz1, Sem.run_bind]
  have hb : (0 : Int) ≤ (i : Int) ∧ (i : Int) < (n : Int) := by omega
  simp only [Instr.indexAt, hx, hy, asIntOf, Sem.run_bind, Sem.run_pure, Result.andThen_ok, run_underlying Try.underlying113, hb, and_self, if_true, hs, Int.toNat_natCast, Addr.add_mid, Nat.zero_add]
theorem x_call77 {x y : Operand} (h : o.op = .call { callee := .value (.func 83), args := #[x, y], argTypes := #[25, 25] }) : (execOp a.eval o).run Try.prog w = .ok (.enter 83 #[a.eval x, a.eval y]) w := by
  unfold execOp; rw [h]; kernel_rfl
theorem x_alloc60 (h : o.op = .alloc 25) : (execOp a.eval o).run Try.prog w = .ok (.value (.pointer (some ⟨w.heap.size, 0, none⟩))) (w.alloc (.cells #[.int .u64 none4.a, .int .u64 none4.b, .int .u64 none4.c, .int .u64 none4.d] 25)) := by
  unfold execOp; rw [h]; kernel_rfl
theorem x_store60 {x y : Operand} {g : Nat} {q q0 : Q4} (h : o.op = .store 25 x y) (hx : a.eval x = .pointer (some ⟨g, 0, none⟩)) (hy : a.eval y = V4 q) (hb : Blk w g q0) : (execOp a.eval o).run Try.prog w = .ok .skip ((((w.setCell ⟨g, 0, none⟩ (.int .u64 q.a)).setCell ⟨g, 1, none⟩ (.int .u64 q.b)).setCell ⟨g, 2, none⟩ (.int .u64 q.c)).setCell ⟨g, 3, none⟩ (.int .u64 q.d)) := by
  have c0 := hb.c0
  have c1 := hb.c1
  have c2 := hb.c2
  have c3 := hb.c3
  have f0 := hb.fz 0
  have f1 := hb.fz 1
  have f2 := hb.fz 2
  have f3 := hb.fz 3
  unfold execOp; rw [h]; simp only [hx, hy]; go_simp
theorem x_neq60 {x y : Operand} {q r : Q4} (h : o.op = .binOp .neq 25 x y 25) (hx : a.eval x = V4 q) (hy : a.eval y = V4 r) : (execOp a.eval o).run Try.prog w = .ok (.value (.bool (!decide (q = r)))) w := by
  have e := eq58 q.a q.b q.c q.d r.a r.b r.c r.d
  rw [← eq4_iff]
  unfold execOp; rw [h]; simp only [hx, hy]; go_simp
  generalize eq4 q.a q.b q.c q.d r.a r.b r.c r.d = z
  cases z <;> rfl
end
def ops78_14 : Array Oper := #[
  { dst := some 52, op := Op.move (Operand.tmp 1), type := 113, pos := "build.go:109", after := #[], guard := none },
  { dst := some 53, op := Op.move (Operand.tmp 10), type := 3, pos := "build.go:109", after := #[], guard := none },
  { dst := some 54, op := Op.indexAddr 113 (Operand.tmp 52) (Operand.tmp 53), type := 0, pos := "build.go:109", after := #[{ on := 0, ground := Ground.data }, { on := 1, ground := Ground.data }], guard := none },
  { dst := some 55, op := Op.load 25 (Operand.tmp 54), type := 25, pos := "build.go:109", after := #[{ on := 2, ground := Ground.data }], guard := none },
  { dst := some 56, op := Op.move (Operand.tmp 1), type := 113, pos := "build.go:109", after := #[], guard := none },
  { dst := some 57, op := Op.move (Operand.tmp 8), type := 3, pos := "build.go:109", after := #[], guard := none },
  { dst := some 58, op := Op.indexAddr 113 (Operand.tmp 56) (Operand.tmp 57), type := 0, pos := "build.go:109", after := #[{ on := 4, ground := Ground.data }, { on := 5, ground := Ground.data }], guard := none },
  { dst := some 59, op := Op.load 25 (Operand.tmp 58), type := 25, pos := "build.go:109", after := #[{ on := 6, ground := Ground.data }], guard := none },
  { dst := some 60, op := Op.call { callee := Callee.value (Operand.func 83), args := #[Operand.tmp 55, Operand.tmp 59], argTypes := #[25, 25] }, type := 25, pos := "build.go:109", after := #[{ on := 3, ground := Ground.data }, { on := 7, ground := Ground.data }], guard := none },
  { dst := some 11, op := Op.alloc 25, type := 0, pos := "build.go:109", after := #[], guard := none },
  { dst := none, op := Op.store 25 (Operand.tmp 11) (Operand.tmp 60), type := 0, pos := "build.go:109", after := #[{ on := 9, ground := Ground.data }, { on := 8, ground := Ground.data }, { on := 8, ground := Ground.chain }, { on := 0, ground := Ground.phase }, { on := 1, ground := Ground.phase }, { on := 2, ground := Ground.phase }, { on := 3, ground := Ground.phase }, { on := 4, ground := Ground.phase }, { on := 5, ground := Ground.phase }, { on := 6, ground := Ground.phase }, { on := 7, ground := Ground.phase }, { on := 8, ground := Ground.phase }, { on := 9, ground := Ground.phase }], guard := none }]
structure C14 where
  g : Nat
  n : Nat
  t : Nat
  s : Nat
  R : List Q4
  J : Q4
def C14.fix (c : C14) (i : Nat) : Option Value := [some (.slice (some ⟨c.g, 0, none⟩) c.n c.n), some (.int .i64 (c.t : Int)), some (.pointer (some ⟨c.g, c.t * 4, none⟩)), some (V4 (nth c.R c.t)), some (.slice (some ⟨c.g, 0, none⟩) c.n c.n), some (.int .i64 (c.s : Int)), some (.pointer (some ⟨c.g, c.s * 4, none⟩)), some (V4 (nth c.R c.s)), some (V4 c.J), none, none].getD i none
structure W14 (W : World) (c : C14) (d : Nat → Prop) (vals : Nat → Value) (w : World) : Prop where
  be : Below W.heap.size W w
  nw : d 9 → ∃ p, vals 9 = .pointer (some ⟨p, 0, none⟩) ∧ W.heap.size ≤ p ∧ (¬ d 10 → Blk w p none4) ∧ (d 10 → Blk w p c.J)
theorem W14.plain {W : World} {c : C14} {d : Nat → Prop} {vals : Nat → Value} {w : World} (k : W14 W c d vals w) {i : Nat} (h1 : i ≠ 9) (h2 : i ≠ 10) (v : Value) : W14 W c (fun j => j = i ∨ d j) (dw.upd vals i v) w :=
  ⟨k.be, fun a => by
    obtain ⟨p, e, hp, x, y⟩ := k.nw (a.resolve_left (fun e => h1 e.symm))
    exact ⟨p, by rw [dw.upd_ne _ _ (Ne.symm h1)]; exact e, hp, fun z => x fun u => z (.inr u), fun z => y (z.resolve_left (fun e => h2 e.symm))⟩⟩
theorem W14.later {W : World} {c : C14} {d : Nat → Prop} {vals : Nat → Value} {w w' : World} (k : W14 W c d vals w) (hb : Below w.heap.size w w') : W14 W c d vals w' :=
  ⟨st.chain k.be hb, fun a => by
    obtain ⟨p, e, hp, x, y⟩ := k.nw a
    exact ⟨p, e, hp, fun z => (x z).later hb, fun z => (y z).later hb⟩⟩
set_option maxHeartbeats 1000000 in
theorem reg14 {Q : Exit → Act → World → Prop} {a0 : Act} {id : Nat} (hsz : a0.tmps.size = 76) (c : C14) (e1 : a0.eval (.tmp 1) = .slice (some ⟨c.g, 0, none⟩) c.n c.n) (e10 : a0.eval (.tmp 10) = .int .i64 (c.t : Int)) (e8 : a0.eval (.tmp 8) = .int .i64 (c.s : Int)) {W : World} (hR : SRow W c.g c.R) (hl : c.R.length = c.n) (ht : c.t < c.n) (hs : c.s < c.n)
    (h77 : ∀ w, Calls Try.prog 83 #[V4 (nth c.R c.t), V4 (nth c.R c.s)] w fun ev w' => ev = .returned (V4 c.J) ∧ Below w.heap.size w w')
    (fin : ∀ vals w p, (∀ j, j < 11 → ∀ u, c.fix j = some u → vals j = u) → vals 9 = .pointer (some ⟨p, 0, none⟩) → W.heap.size ≤ p → Blk w p c.J → Below W.heap.size W w → Q .normal (dw.fold ops78_14.toList 0 vals a0) w) : (Code.region id ops78_14 true).wp Try.prog Q a0 W := by
  refine dw.region (by kernel_rfl) (by rw [hsz]; kernel_rfl) c.fix (W14 W c) (fun vals => ⟨below_drew W, fun x => x.elim⟩) ?_ ?_
  · intro i hi
    match i, hi with
    | 0, _ => intro d vals a w o ho hn hd hdl hcl hf hx hw K Q' E hk; exact dw.s_val (dw.gd_of ho rfl) ((dw.x_move (dw.op_of ho rfl)).trans (by rw [((hf.base 1 fun i hi => (by decide +kernel : ∀ i, i < ops78_14.size → dw.slot ops78_14 i ≠ some 1) i (hdl i hi)).trans e1)])) (hk _ w (fun u hu => by cases hu; rfl) (hw.plain (by decide) (by decide) _))
    | 1, _ => intro d vals a w o ho hn hd hdl hcl hf hx hw K Q' E hk; exact dw.s_val (dw.gd_of ho rfl) ((dw.x_move (dw.op_of ho rfl)).trans (by rw [((hf.base 10 fun i hi => (by decide +kernel : ∀ i, i < ops78_14.size → dw.slot ops78_14 i ≠ some 10) i (hdl i hi)).trans e10)])) (hk _ w (fun u hu => by cases hu; rfl) (hw.plain (by decide) (by decide) _))
    | 2, _ => intro d vals a w o ho hn hd hdl hcl hf hx hw K Q' E hk; exact dw.s_val (dw.gd_of ho rfl) (x_index113 (dw.op_of ho rfl) ((hf.eval 0 (hd 0 (by kernel_rfl)) (t := 52) rfl).trans (hx 0 (hd 0 (by kernel_rfl)) _ rfl)) ((hf.eval 1 (hd 1 (by kernel_rfl)) (t := 53) rfl).trans (hx 1 (hd 1 (by kernel_rfl)) _ rfl)) ht) (hk _ w (fun u hu => by cases hu; rfl) (hw.plain (by decide) (by decide) _))
    | 3, _ => intro d vals a w o ho hn hd hdl hcl hf hx hw K Q' E hk; exact dw.s_val (dw.gd_of ho rfl) (x_load60 (dw.op_of ho rfl) ((hf.eval 2 (hd 2 (by kernel_rfl)) (t := 54) rfl).trans (hx 2 (hd 2 (by kernel_rfl)) _ rfl)) ((hR.later hw.be).cells c.t (by omega))) (hk _ w (fun u hu => by cases hu; rfl) (hw.plain (by decide) (by decide) _))
    | 4, _ => intro d vals a w o ho hn hd hdl hcl hf hx hw K Q' E hk; exact dw.s_val (dw.gd_of ho rfl) ((dw.x_move (dw.op_of ho rfl)).trans (by rw [((hf.base 1 fun i hi => (by decide +kernel : ∀ i, i < ops78_14.size → dw.slot ops78_14 i ≠ some 1) i (hdl i hi)).trans e1)])) (hk _ w (fun u hu => by cases hu; rfl) (hw.plain (by decide) (by decide) _))
    | 5, _ => intro d vals a w o ho hn hd hdl hcl hf hx hw K Q' E hk; exact dw.s_val (dw.gd_of ho rfl) ((dw.x_move (dw.op_of ho rfl)).trans (by rw [((hf.base 8 fun i hi => (by decide +kernel : ∀ i, i < ops78_14.size → dw.slot ops78_14 i ≠ some 8) i (hdl i hi)).trans e8)])) (hk _ w (fun u hu => by cases hu; rfl) (hw.plain (by decide) (by decide) _))
    | 6, _ => intro d vals a w o ho hn hd hdl hcl hf hx hw K Q' E hk; exact dw.s_val (dw.gd_of ho rfl) (x_index113 (dw.op_of ho rfl) ((hf.eval 4 (hd 4 (by kernel_rfl)) (t := 56) rfl).trans (hx 4 (hd 4 (by kernel_rfl)) _ rfl)) ((hf.eval 5 (hd 5 (by kernel_rfl)) (t := 57) rfl).trans (hx 5 (hd 5 (by kernel_rfl)) _ rfl)) hs) (hk _ w (fun u hu => by cases hu; rfl) (hw.plain (by decide) (by decide) _))
    | 7, _ => intro d vals a w o ho hn hd hdl hcl hf hx hw K Q' E hk; exact dw.s_val (dw.gd_of ho rfl) (x_load60 (dw.op_of ho rfl) ((hf.eval 6 (hd 6 (by kernel_rfl)) (t := 58) rfl).trans (hx 6 (hd 6 (by kernel_rfl)) _ rfl)) ((hR.later hw.be).cells c.s (by omega))) (hk _ w (fun u hu => by cases hu; rfl) (hw.plain (by decide) (by decide) _))
    | 8, _ =>
        intro d vals a w o ho hn hd hdl hcl hf hx hw K Q' E hk
        have v3 := ((hf.eval 3 (hd 3 (by kernel_rfl)) (t := 55) rfl).trans (hx 3 (hd 3 (by kernel_rfl)) _ rfl))
        have v7 := ((hf.eval 7 (hd 7 (by kernel_rfl)) (t := 59) rfl).trans (hx 7 (hd 7 (by kernel_rfl)) _ rfl))
        refine dw.s_call (dw.gd_of ho rfl) (x_call77 (dw.op_of ho rfl)) (by rw [v3, v7]; exact h77 w) ?_
        rintro ev w' ⟨rfl, hb⟩
        exact ⟨_, rfl, hk _ w' (fun u hu => by cases hu; rfl) ((hw.later hb).plain (by decide) (by decide) _)⟩
    | 9, _ =>
        intro d vals a w o ho hn hd hdl hcl hf hx hw K Q' E hk
        have n10 : ¬ d 10 := fun x => hn (hcl 10 9 x (by kernel_rfl))
        refine dw.s_val (dw.gd_of ho rfl) (x_alloc60 (dw.op_of ho rfl)) (hk _ _ (fun u hu => by cases hu) ⟨hw.be.alloc hw.be.size _, fun _ => ⟨w.heap.size, by rw [dw.upd_same], hw.be.size, fun _ => st.blk_new w none4, fun x => absurd (x.resolve_left (by decide)) n10⟩⟩)
    | 10, _ =>
        intro d vals a w o ho hn hd hdl hcl hf hx hw K Q' E hk
        obtain ⟨p, e, hp, x, y⟩ := hw.nw (hd 9 (by kernel_rfl))
        have v8 := ((hf.eval 8 (hd 8 (by kernel_rfl)) (t := 60) rfl).trans (hx 8 (hd 8 (by kernel_rfl)) _ rfl))
        have v9 := (hf.eval 9 (hd 9 (by kernel_rfl)) (t := 11) rfl).trans e
        exact dw.s_skip (dw.gd_of ho rfl) (x_store60 (dw.op_of ho rfl) v9 v8 (x hn)) (hk _ _ (fun u hu => by cases hu) ⟨st.Below.set4 hw.be hp _, fun _ => ⟨p, by rw [dw.upd_ne _ _ (by decide)]; exact e, hp, fun z => absurd (.inl rfl) z, fun _ => st.set4 (x hn) _⟩⟩)
    | i + 11, hi => exact absurd hi (by simp [ops78_14])
  · intro vals w hx hw
    obtain ⟨p, e, hp, _, y⟩ := hw.nw (by decide)
    exact fin vals w p hx e hp (y (by decide)) hw.be
def ops78_15 : Array Oper := #[
  { dst := some 61, op := Op.load 25 (Operand.tmp 11), type := 25, pos := "build.go:109", after := #[], guard := none },
  { dst := some 62, op := Op.move (Operand.tmp 1), type := 113, pos := "build.go:109", after := #[], guard := none },
  { dst := some 63, op := Op.move (Operand.tmp 10), type := 3, pos := "build.go:109", after := #[], guard := none },
  { dst := some 64, op := Op.indexAddr 113 (Operand.tmp 62) (Operand.tmp 63), type := 0, pos := "build.go:109", after := #[{ on := 1, ground := Ground.data }, { on := 2, ground := Ground.data }], guard := none },
  { dst := some 65, op := Op.load 25 (Operand.tmp 64), type := 25, pos := "build.go:109", after := #[{ on := 3, ground := Ground.data }], guard := none },
  { dst := some 66, op := Op.binOp BinOp.neq 25 (Operand.tmp 61) (Operand.tmp 65) 25, type := 4, pos := "build.go:109", after := #[{ on := 0, ground := Ground.data }, { on := 4, ground := Ground.data }], guard := none }]
structure C15 where
  g : Nat
  n : Nat
  t : Nat
  p : Nat
  R : List Q4
  J : Q4
def C15.fix (c : C15) (i : Nat) : Option Value := [some (V4 c.J), some (.slice (some ⟨c.g, 0, none⟩) c.n c.n), some (.int .i64 (c.t : Int)), some (.pointer (some ⟨c.g, c.t * 4, none⟩)), some (V4 (nth c.R c.t)), some (.bool (!decide (c.J = nth c.R c.t)))].getD i none
set_option maxHeartbeats 1000000 in
theorem reg15 {Q : Exit → Act → World → Prop} {a0 : Act} {id : Nat} (hsz : a0.tmps.size = 76) (c : C15) (e1 : a0.eval (.tmp 1) = .slice (some ⟨c.g, 0, none⟩) c.n c.n) (e10 : a0.eval (.tmp 10) = .int .i64 (c.t : Int)) (e11 : a0.eval (.tmp 11) = .pointer (some ⟨c.p, 0, none⟩)) {W : World} (hR : SRow W c.g c.R) (hJ : Blk W c.p c.J) (hl : c.R.length = c.n) (ht : c.t < c.n)
    (fin : ∀ vals, (∀ j, j < 6 → ∀ u, c.fix j = some u → vals j = u) → Q .normal (dw.fold ops78_15.toList 0 vals a0) W.drew) : (Code.region id ops78_15 true).wp Try.prog Q a0 W := by
  refine dw.region (by kernel_rfl) (by rw [hsz]; kernel_rfl) c.fix (fun d vals w => w = W.drew) (fun vals => rfl) ?_ ?_
  · intro i hi
    match i, hi with
    | 0, _ => intro d vals a w o ho hn hd hdl hcl hf hx hw K Q' E hk; exact dw.s_val (dw.gd_of ho rfl) (x_load60 (dw.op_of ho rfl) ((hf.base 11 fun i hi => (by decide +kernel : ∀ i, i < ops78_15.size → dw.slot ops78_15 i ≠ some 11) i (hdl i hi)).trans e11) (by rw [hw]; exact ⟨hJ.c0, hJ.c1, hJ.c2, hJ.c3⟩)) (hk _ w (fun u hu => by cases hu; rfl) hw)
    | 1, _ => intro d vals a w o ho hn hd hdl hcl hf hx hw K Q' E hk; exact dw.s_val (dw.gd_of ho rfl) ((dw.x_move (dw.op_of ho rfl)).trans (by rw [((hf.base 1 fun i hi => (by decide +kernel : ∀ i, i < ops78_15.size → dw.slot ops78_15 i ≠ some 1) i (hdl i hi)).trans e1)])) (hk _ w (fun u hu => by cases hu; rfl) hw)
    | 2, _ => intro d vals a w o ho hn hd hdl hcl hf hx hw K Q' E hk; exact dw.s_val (dw.gd_of ho rfl) ((dw.x_move (dw.op_of ho rfl)).trans (by rw [((hf.base 10 fun i hi => (by decide +kernel : ∀ i, i < ops78_15.size → dw.slot ops78_15 i ≠ some 10) i (hdl i hi)).trans e10)])) (hk _ w (fun u hu => by cases hu; rfl) hw)
    | 3, _ => intro d vals a w o ho hn hd hdl hcl hf hx hw K Q' E hk; exact dw.s_val (dw.gd_of ho rfl) (x_index113 (dw.op_of ho rfl) ((hf.eval 1 (hd 1 (by kernel_rfl)) (t := 62) rfl).trans (hx 1 (hd 1 (by kernel_rfl)) _ rfl)) ((hf.eval 2 (hd 2 (by kernel_rfl)) (t := 63) rfl).trans (hx 2 (hd 2 (by kernel_rfl)) _ rfl)) ht) (hk _ w (fun u hu => by cases hu; rfl) hw)
    | 4, _ => intro d vals a w o ho hn hd hdl hcl hf hx hw K Q' E hk; exact dw.s_val (dw.gd_of ho rfl) (x_load60 (dw.op_of ho rfl) ((hf.eval 3 (hd 3 (by kernel_rfl)) (t := 64) rfl).trans (hx 3 (hd 3 (by kernel_rfl)) _ rfl)) (by rw [hw]; exact hR.cells c.t (by omega))) (hk _ w (fun u hu => by cases hu; rfl) hw)
    | 5, _ => intro d vals a w o ho hn hd hdl hcl hf hx hw K Q' E hk; exact dw.s_val (dw.gd_of ho rfl) (x_neq60 (dw.op_of ho rfl) ((hf.eval 0 (hd 0 (by kernel_rfl)) (t := 61) rfl).trans (hx 0 (hd 0 (by kernel_rfl)) _ rfl)) ((hf.eval 4 (hd 4 (by kernel_rfl)) (t := 65) rfl).trans (hx 4 (hd 4 (by kernel_rfl)) _ rfl))) (hk _ w (fun u hu => by cases hu; rfl) hw)
    | i + 6, hi => exact absurd hi (by simp [ops78_15])
  · intro vals w hx hw
    rw [hw]
    exact fin vals hx
theorem fold78_14 (vals : Nat → Value) (a : Act) : dw.fold ops78_14.toList 0 vals a = ((((((((((a.put (some 52) (vals 0)).put (some 53) (vals 1)).put (some 54) (vals 2)).put (some 55) (vals 3)).put (some 56) (vals 4)).put (some 57) (vals 5)).put (some 58) (vals 6)).put (some 59) (vals 7)).put (some 60) (vals 8)).put (some 11) (vals 9)) := by
  unfold ops78_14
  simp only [dw.fold, dw.put_none, Nat.zero_add, Nat.reduceAdd]
theorem fold78_15 (vals : Nat → Value) (a : Act) : dw.fold ops78_15.toList 0 vals a = ((((((a.put (some 61) (vals 0)).put (some 62) (vals 1)).put (some 63) (vals 2)).put (some 64) (vals 3)).put (some 65) (vals 4)).put (some 66) (vals 5)) := by
  unfold ops78_15
  simp only [dw.fold, Nat.zero_add, Nat.reduceAdd]
end Go.Proofs.Ytfilndgbgdnpiaa.bd
