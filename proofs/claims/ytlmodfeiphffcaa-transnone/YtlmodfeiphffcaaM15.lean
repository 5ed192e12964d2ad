/-
  Texts put together: Over this program: how what texts are to the rules is gathered, rule by rule and beginning by beginning (newRewriter). Contracts over this program: newRewriter: what texts are to the rules is gathered in a map.
-/
import Derived.Test.YtlmodfeiphffcaaKRn
namespace Go.Proofs.Ytlmodfeiphffcaa.wr
open Go.ChangeShapes Go.WideShapes Go.ChangeAt Go.RowKit Go.Shelf Go.Maps
open tr
open mk (law9 OkT kt key9 kt_inj map_keep)
open ru (Ru Rus)
open ru.rw (waits whole)
set_option linter.unusedVariables false

/-- the rules l are gathered, and of the rule behind them its From and its beginnings of less than n bytes -/
def IsPa (l : List Ru) (r : Ru) (n : Nat) (D : DataW Unit) : Prop := ∀ u : ByteArray, OkT u → D.atKey (kt u) (eS false false []) = eS (waits l u.data.toList || (decide (u.size < n) && u.data.toList.isPrefixOf r.f)) (whole (l ++ [r]) u.data.toList).isSome (toOf (l ++ [r]) u.data.toList)
theorem whole_snoc_same {l : List Ru} {r : Ru} (h : ∀ r' ∈ l, r'.f ≠ r.f) : whole (l ++ [r]) r.f = some r := by
  unfold whole
  rw [List.find?_append, List.find?_eq_none.2 (fun x hx => by simpa using h x hx)]
  simp
theorem whole_snoc_other {l : List Ru} {r : Ru} {u : List UInt8} (h : r.f ≠ u) : whole (l ++ [r]) u = whole l u := by
  unfold whole
  rw [List.find?_append]
  have : List.find? (fun r => r.f == u) [r] = none := List.find?_eq_none.2 (fun x hx => by rw [List.mem_singleton.1 hx]; simpa using h)
  rw [this]
  simp
theorem data_ne {u f : ByteArray} (h : u ≠ f) : f.data.toList ≠ u.data.toList := fun e => h (by cases u; cases f; simpa using e.symm)
/-- nothing is gathered yet -/
theorem IsSt.none {D : DataW Unit} (h : ∀ u : ByteArray, OkT u → D.atKey (kt u) (eS false false []) = eS false false []) : IsSt [] D := fun u hu => by rw [h u hu]; rfl
/-- the From of one rule more -/
theorem IsSt.start {l : List Ru} {r : Ru} {D : DataW Unit} (h : IsSt l D) (hT : Tidy D) (f : ByteArray) (hok : OkT f) (hf : f.data.toList = r.f) (hnew : ∀ r' ∈ l, r'.f ≠ r.f) (hlit : WideAt.IsKeyLit (kt f)) : IsPa l r 0 (D.put (kt f) (eS (waits l r.f) true r.t)) := by
  intro u hu
  by_cases e : u = f
  · subst e
    rw [atKey_put_same hT.isMap hlit, hf]
    unfold toOf
    rw [whole_snoc_same hnew]
    simp
  · rw [atKey_put_other (fun e2 => e (kt_inj u f hu hok e2)), h u hu]
    unfold toOf
    rw [whole_snoc_other (by rw [← hf]; exact data_ne e)]
    simp
/-- a beginning more -/
theorem IsPa.put {l : List Ru} {r : Ru} {n : Nat} {D : DataW Unit} (h : IsPa l r n D) (hT : Tidy D) (f : ByteArray) (hok : OkT f) (hf : f.data.toList = r.f.take n) (hn : n < r.f.length) (hlit : WideAt.IsKeyLit (kt f)) : IsPa l r (n + 1) (D.put (kt f) (eS true (whole (l ++ [r]) f.data.toList).isSome (toOf (l ++ [r]) f.data.toList))) := by
  have hfs : f.size = n := by
    have := list_len f
    rw [hf, List.length_take] at this
    omega
  intro u hu
  by_cases e : u = f
  · subst e
    rw [atKey_put_same hT.isMap hlit]
    have : (decide (u.size < n + 1) && u.data.toList.isPrefixOf r.f) = true := by
      rw [hf]
      simp [hfs, List.take_prefix]
    rw [this]
    simp
  · rw [atKey_put_other (fun e2 => e (kt_inj u f hu hok e2)), h u hu]
    have : (decide (u.size < n + 1) && u.data.toList.isPrefixOf r.f) = (decide (u.size < n) && u.data.toList.isPrefixOf r.f) := by
      by_cases hp : u.data.toList.isPrefixOf r.f = true
      · have hne : u.size ≠ n := fun en => by
          have h1 := List.isPrefixOf_iff_prefix.1 hp
          have h2 := List.prefix_iff_eq_take.1 h1
          rw [list_len u, en, ← hf] at h2
          exact data_ne e h2.symm
        rw [hp]
        simp only [Bool.and_true]
        by_cases h3 : u.size < n
        · simp [h3, Nat.lt_succ_of_lt h3]
        · have h4 : ¬ u.size < n + 1 := by omega
          simp [h3, h4]
      · simp [hp]
    rw [this]
/-- all of a rule's beginnings -/
theorem IsPa.all {l : List Ru} {r : Ru} {D : DataW Unit} (h : IsPa l r r.f.length D) : IsSt (l ++ [r]) D := by
  intro u hu
  rw [h u hu]
  have hl := list_len u
  have : waits (l ++ [r]) u.data.toList = (waits l u.data.toList || (decide (u.size < r.f.length) && u.data.toList.isPrefixOf r.f)) := by
    unfold waits
    rw [List.any_append]
    simp [hl]
  rw [this]
end Go.Proofs.Ytlmodfeiphffcaa.wr

namespace Go.Proofs.Ytlmodfeiphffcaa.wr
open Go.ChangeShapes Go.WideShapes Go.ChangeAt Go.RowKit Go.Shelf Go.Maps
open tr
open mk (law9 OkT kt key9 kt_inj map_keep)
open ru (Ru Rus nth)
open ru.rw (waits whole)
set_option linter.unusedVariables false
set_option maxRecDepth 100000

theorem make95n (w : World) : (Instr.makeMap 95 none).run Try.prog w = .ok (.map (some w.heap.size)) (w.alloc (.map #[] 0)) := by kernel_rfl
theorem make96n (w : World) : (Instr.makeMap 96 none).run Try.prog w = .ok (.map (some w.heap.size)) (w.alloc (.map #[] 0)) := by kernel_rfl
/-- a rewriter that is being begun: D is what is gathered -/
structure Nw (B rb : Nat) (l : List Ru) (lv : Value) (sm fm n : Nat) (D : DataW Unit) (W : World) : Prop where
  box : W.heap[rb]? = some (.cells #[lv, .map (some sm), .map (some fm)] 98 (0, 0))
  rus : ∃ w0 : World, Rus w0 lv l ∧ w0.heap.size = B ∧ Below B w0 W
  st : W.ownsMap Try.prog 9 RS sm n D
  fl : ∃ D', W.ownsMap Try.prog 9 RF fm 0 D' ∧ IsFl l [] D'
  bb : B ≤ rb
  bs : B ≤ sm
  bf : B ≤ fm
  ne : sm ≠ fm
section
variable {B rb : Nat} {l : List Ru} {lv : Value} {sm fm n : Nat} {D : DataW Unit} {W W' : World}
theorem Nw.rl (h : Nw B rb l lv sm fm n D W) : rb < W.heap.size := (Array.getElem?_eq_some_iff.1 h.box).1
theorem Nw.hb (h : Nw B rb l lv sm fm n D W) : B ≤ W.heap.size := Nat.le_trans h.bb (Nat.le_of_lt h.rl)
theorem Nw.sl (h : Nw B rb l lv sm fm n D W) : sm < W.heap.size := h.st.lt
theorem Nw.c1 (h : Nw B rb l lv sm fm n D W) : W.cell? ⟨rb, 1, none⟩ = some (.map (some sm)) := by rw [Lib.cell_of_heap h.box]; rfl
theorem Nw.rules (h : Nw B rb l lv sm fm n D W) : Rus W lv l := by
  obtain ⟨w0, h1, h2, h3⟩ := h.rus
  subst h2
  exact h1.below h3
theorem Nw.later (h : Nw B rb l lv sm fm n D W) (c : Below W.heap.size W W') : Nw B rb l lv sm fm n D W' := by
  obtain ⟨w0, r1, r2, r3⟩ := h.rus
  obtain ⟨D', f1, f2⟩ := h.fl
  exact ⟨(c.block _ h.rl).trans h.box, ⟨w0, r1, r2, r3.trans (c.mono h.hb)⟩, map_same h.st (c.block _ h.sl), ⟨D', map_same f1 (c.block _ f1.lt), f2⟩, h.bb, h.bs, h.bf, h.ne⟩
theorem Nw.put (h : Nw B rb l lv sm fm n D W) {n' : Nat} {E : DataW Unit} (hE : W'.ownsMap Try.prog 9 RS sm n' E) (hg : W.grownBy W' (some sm)) : Nw B rb l lv sm fm n' E W' := by
  obtain ⟨w0, r1, r2, r3⟩ := h.rus
  obtain ⟨D', f1, f2⟩ := h.fl
  have hrs : rb ≠ sm := fun e => by
    obtain ⟨es, c, h1, _⟩ := h.st
    have := h.box
    rw [e, h1] at this
    cases this
  have kept : ∀ k, k < W.heap.size → k ≠ sm → W'.heap[k]? = W.heap[k]? := fun k hk hne => hg.block k hk (fun e => hne (Option.some.inj e))
  have hbs := h.bs
  have hb : Below B W W' := ⟨hg.os, hg.tape, hg.output, hg.size, fun k hk => kept k (by have := h.hb; omega) (by omega)⟩
  exact ⟨(kept _ h.rl hrs).trans h.box, ⟨w0, r1, r2, r3.trans hb⟩, hE, ⟨D', map_same f1 (kept _ f1.lt (fun e => h.ne e.symm)), f2⟩, h.bb, h.bs, h.bf, h.ne⟩
theorem Nw.rw' (h : Nw B rb l lv sm fm n D W) (hn : n ≤ 100000) (hD : IsSt l D) : Rw B rb l lv sm fm W := by
  obtain ⟨D', f1, f2⟩ := h.fl
  exact ⟨h.box, h.rus, ⟨n, D, hn, h.st, hD⟩, ⟨[], D', f1, f2⟩, h.bb, h.bs, h.bf, h.ne⟩
theorem Nw.look (h : Nw B rb l lv sm fm n D W) (u : ByteArray) (hu : OkT u) {x y : Bool} {s : List UInt8} (hv : D.atKey (kt u) (eS false false []) = eS x y s) : (Instr.lookup 95 (.map (some sm)) (.string u) false).run Try.prog W = .ok (.agg #[.bool x, .bool y, .string (tr.bs s)]) W := by
  obtain ⟨v, ps, hrun, hz⟩ := h.st.lookup law9 Try.underlying95 (zero100 W) (RS_of false false ⟨#[]⟩) (key9 u hu)
  have e0 : eS false false (⟨#[]⟩ : ByteArray).data.toList = eS false false [] := rfl
  rw [e0, hv] at hz
  obtain ⟨x', y', s', rfl, he⟩ := RS_inv hz
  obtain ⟨rfl, rfl, e3⟩ := eS_inj (congrArg Prod.fst he)
  rw [hrun]
  have : s' = tr.bs s := by
    cases s' with
    | mk a => cases a with | mk q => simp at e3; subst e3; rfl
  rw [this]
/-- one text more -/
theorem Nw.upd (h : Nw B rb l lv sm fm n D W) (hn : n ≤ 100000) (u : ByteArray) (hu : OkT u) (x y : Bool) (s : ByteArray) : ∃ W', (Instr.mapUpdate 95 (.map (some sm)) (.string u) (.agg #[.bool x, .bool y, .string s])).run Try.prog W = .ok () W' ∧ Nw B rb l lv sm fm (n + 1) (D.put (kt u) (eS x y s.data.toList)) W' ∧ W.grownBy W' (some sm) := by
  obtain ⟨w6, hrun, hD6, hg6⟩ := World.ownsMap.update h.st law9 Try.underlying95 (by unfold maxLen; omega) (key9 u hu) (RS_of x y s)
  exact ⟨w6, hrun, h.put hD6 hg6, hg6⟩
end
end Go.Proofs.Ytlmodfeiphffcaa.wr
