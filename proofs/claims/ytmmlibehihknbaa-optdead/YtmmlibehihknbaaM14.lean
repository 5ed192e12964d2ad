/-
  Texts put together: Plain mathematics: what a dfa takes of a text's beginning. Dfas, lists of ints, that came in as arguments: what their readings say of the memory.
-/
import Derived.Test.YtmmlibehihknbaaM13
import Derived.Laws.IdiomArrays
import Derived.Deep.Slices
import Derived.SizedLaws
import Derived.ChangeOld
import Derived.Below
import Derived.OpenShut
namespace Go.Proofs.Ytmmlibehihknbaa.df
set_option linter.unusedVariables false

theorem here_mem (d : Dfa) (q t : Nat) : ∀ x ∈ here d q t, x = (t : Int) := by
  intro x hx
  unfold here at hx
  split at hx
  · simpa using hx
  · cases hx
theorem ends_ge (d : Dfa) (s : ByteArray) : ∀ f q t, ∀ x ∈ ends d s f q t, (t : Int) ≤ x
  | 0, q, t, x, hx => by
    unfold ends at hx
    split at hx
    · cases hx
    · rw [here_mem d _ _ x hx]; omega
  | f + 1, q, t, x, hx => by
    unfold ends at hx
    split at hx
    · cases hx
    · rcases List.mem_append.1 hx with h | h
      · rw [here_mem d _ _ x h]; omega
      · have := ends_ge d s f _ _ x h; omega
theorem begins (d : Dfa) (u v : ByteArray) (n : Nat) (hn : n ≤ u.size) (hv : v.size = n) (hb : ∀ i, i < n → byteAt v i = byteAt u i) : ∀ k t q, t + k = n →
    (ends d u (u.size - t) q t).filter (fun x => decide (x ≤ (n : Int))) = ends d v (v.size - t) q t := by
  intro k
  induction k with
  | zero =>
    intro t q ht
    have e : v.size - t = 0 := by omega
    rw [e]
    by_cases hq : q < 0
    · rw [ends_neg d u _ q t hq, ends_neg d v _ q t hq]; rfl
    · obtain ⟨q', rfl⟩ : ∃ q' : Nat, q = (q' : Int) := ⟨q.toNat, by omega⟩
      rw [ends_zero]
      by_cases h0 : u.size - t = 0
      · rw [h0, ends_zero]
        refine List.filter_eq_self.2 (fun x hx => ?_)
        rw [here_mem d _ _ x hx]
        exact decide_eq_true (by omega)
      · obtain ⟨f, hf⟩ : ∃ f, u.size - t = f + 1 := ⟨u.size - t - 1, by omega⟩
        rw [hf, ends_succ, List.filter_append]
        have e1 : (here d q' t).filter (fun x => decide (x ≤ (n : Int))) = here d q' t := List.filter_eq_self.2 (fun x hx => by
          rw [here_mem d _ _ x hx]
          exact decide_eq_true (by omega))
        have e2 : (ends d u f (nxt d q' (d.cls (byteAt u t))) (t + 1)).filter (fun x => decide (x ≤ (n : Int))) = [] := List.filter_eq_nil_iff.2 (fun x hx => by
          have := ends_ge d u f _ _ x hx
          simp
          omega)
        rw [e1, e2, List.append_nil]
  | succ k ih =>
    intro t q ht
    obtain ⟨f, hf⟩ : ∃ f, u.size - t = f + 1 := ⟨u.size - t - 1, by omega⟩
    obtain ⟨g, hg⟩ : ∃ g, v.size - t = g + 1 := ⟨v.size - t - 1, by omega⟩
    rw [hf, hg]
    by_cases hq : q < 0
    · rw [ends_neg d u _ q t hq, ends_neg d v _ q t hq]; rfl
    · obtain ⟨q', rfl⟩ : ∃ q' : Nat, q = (q' : Int) := ⟨q.toNat, by omega⟩
      rw [ends_succ, ends_succ, List.filter_append, hb t (by omega)]
      have e1 : (here d q' t).filter (fun x => decide (x ≤ (n : Int))) = here d q' t := List.filter_eq_self.2 (fun x hx => by
        rw [here_mem d _ _ x hx]
        exact decide_eq_true (by omega))
      have i1 := ih (t + 1) (nxt d q' (d.cls (byteAt u t))) (by omega)
      have f1 : u.size - (t + 1) = f := by omega
      have g1 : v.size - (t + 1) = g := by omega
      rw [f1, g1] at i1
      rw [e1, i1]
theorem byte_cut (u : ByteArray) (n i : Nat) (hn : n ≤ u.size) (hi : i < n) : byteAt (u.extract 0 n) i = byteAt u i := by
  have h1 : i < (u.extract 0 n).size := by simp; omega
  rw [byte_eq _ _ h1, byte_eq _ _ (by omega)]
  congr 1
  rw [ByteArray.getElem_extract]
  simp
theorem begins_all (d : Dfa) (u : ByteArray) (n : Nat) (hn : n ≤ u.size) : (endsOf d u 0).filter (fun x => decide (x ≤ (n : Int))) = endsOf d (u.extract 0 n) 0 := by
  have hv : (u.extract 0 n).size = n := by simp; omega
  unfold endsOf
  by_cases hr : right d = true
  · rw [if_pos ⟨hr, by omega, by omega⟩, if_pos ⟨hr, by omega, by omega⟩]
    have := begins d u (u.extract 0 n) n hn hv (fun i hi => byte_cut u n i hn hi) n 0 0 (by omega)
    simpa using this
  · rw [if_neg (fun h => hr h.1), if_neg (fun h => hr h.1)]
    rfl
end Go.Proofs.Ytmmlibehihknbaa.df

namespace Go.Proofs.Ytmmlibehihknbaa.df
open Go.ChangeShapes Go.WideShapes Go.ChangeAt Go.RowKit
set_option linter.unusedVariables false

theorem u8_range {a : Int} (h : (Lit.int .u8 a).wf = true) : 0 ≤ a ∧ a < 256 := by
  have e1 : IntKind.u8.min = 0 := by decide
  have e2 : IntKind.u8.max = 255 := by decide
  simp [Lit.wf] at h
  rw [e1, e2] at h
  omega
section
variable {H : Type} {enc : TypeId × Value → H} {W : World} {sp : Nat → Bool} {held : Bool}
theorem row_of {α : Type} [Inhabited α] (g : α → Value) (Pr : α → Prop) {t e : TypeId} (ht : Try.prog.underlying t = some (.slice e)) (hc : Try.prog.cellsOf e = 1)
    (dec : ∀ n V y, DataW.trod enc Try.prog W 0 sp held n e [V] = some y → ∃ x, V = g x ∧ Pr x) {fuel : Nat} {cs : List Value} {x : DataW H × List MemPlace} (h : DataW.trod enc Try.prog W 0 sp held fuel t cs = some x) :
    ∃ (o : Option Addr) (cap : Nat) (l : List α), cs = [.slice o l.length cap] ∧ Row (In W) W g o cap l ∧ ∀ x ∈ l, Pr x := by
  rcases Deep.open_slice1 ht hc h with ⟨rfl, _⟩ | ⟨a, len, cap, m, n, V, D, Pl, rfl, hb, hl, hm, hmm, _, hV⟩
  · exact ⟨none, 0, [], rfl, ⟨Nat.le_refl _, by omega, fun i hi => by simp at hi⟩, by simp⟩
  · have hlm : len ≤ m := by rw [hmm]; split <;> omega
    obtain ⟨f, hf⟩ := Deep.choose_lt (α := α) (p := fun i x => V i = g x ∧ Pr x) (fun i (hi : i < len) => dec n (V i) _ (hV i (by omega)).2)
    have hln : ((List.range len).map f).length = len := by simp
    unfold maxLen at hm
    refine ⟨some a, cap, (List.range len).map f, by rw [hln], ⟨by rw [hln]; exact hl, hm, fun i hi => ?_⟩, fun x hx => ?_⟩
    · rw [hln] at hi
      obtain ⟨b, off, spot⟩ := a
      have h1 := (hV i (by omega)).1
      have hspot : spot = none := by simpa [Addr.add] using World.cell?_spot (hV 0 (by omega)).1
      subst hspot
      have hadd : (⟨b, off, none⟩ : Addr).add i = ⟨b, off + i, none⟩ := by simp [Addr.add]
      rw [hadd] at h1
      refine ⟨b, off, rfl, block_lt_of_cell h1, ?_⟩
      rw [h1, (hf i hi).1]
      simp
    · obtain ⟨i, hi, rfl⟩ := List.mem_map.1 hx
      exact (hf i (List.mem_range.1 hi)).2
theorem ints_of {fuel : Nat} {cs : List Value} {x : DataW H × List MemPlace} (h : DataW.trod enc Try.prog W 0 sp held fuel 25 cs = some x) :
    ∃ (o : Option Addr) (cap : Nat) (l : List Int), cs = [.slice o l.length cap] ∧ Row (In W) W iv o cap l := by
  obtain ⟨o, cap, l, h1, h2, _⟩ := row_of iv (fun _ => True) Try.underlying25 (by kernel_rfl) (fun n V y h => by
    obtain ⟨z, e, _, _⟩ := DataW.trod_int Try.underlying3 h
    simp at e
    exact ⟨z, e, trivial⟩) h
  exact ⟨o, cap, l, h1, h2⟩
theorem bools_of {fuel : Nat} {cs : List Value} {x : DataW H × List MemPlace} (h : DataW.trod enc Try.prog W 0 sp held fuel 34 cs = some x) :
    ∃ (o : Option Addr) (cap : Nat) (l : List Bool), cs = [.slice o l.length cap] ∧ Row (In W) W bv o cap l := by
  obtain ⟨o, cap, l, h1, h2, _⟩ := row_of bv (fun _ => True) Try.underlying34 (by kernel_rfl) (fun n V y h => by
    obtain ⟨z, e, _⟩ := DataW.trod_bool Try.underlying4 h
    simp at e
    exact ⟨z, e, trivial⟩) h
  exact ⟨o, cap, l, h1, h2⟩
theorem rows_of {fuel : Nat} {cs : List Value} {x : DataW H × List MemPlace} (h : DataW.trod enc Try.prog W 0 sp held fuel 29 cs = some x) :
    ∃ (o : Option Addr) (cap : Nat) (l : List (List Int)), cs = [.slice o l.length cap] ∧ RowRow (In W) W o cap l := by
  obtain ⟨o, cap, l, h1, h2, h3⟩ := row_of (α := List Int × Option Addr × Nat) (fun x => .slice x.2.1 x.1.length x.2.2) (fun x => Row (In W) W iv x.2.1 x.2.2 x.1) Try.underlying29 (by kernel_rfl) (fun n V y h => by
    obtain ⟨o, cap, l, e, hr⟩ := ints_of h
    simp at e
    exact ⟨(l, o, cap), e, hr⟩) h
  refine ⟨o, cap, l.map (·.1), by simpa using h1, by simpa using h2.fit, h2.top, fun i hi => ?_⟩
  have hi2 : i < l.length := by simpa using hi
  obtain ⟨b, off, e, hb, hc⟩ := h2.lie i hi2
  exact ⟨b, off, l[i].2.1, l[i].2.2, e, hb, by simpa using hc, by simpa using h3 _ (List.getElem_mem hi2)⟩
set_option maxRecDepth 100000 in
theorem open36 {base : Nat} {v : Value} {d : DataW H} {p : List MemPlace} (hok : Value.okWide Try.prog W .any base 36 v) (h : DataW.Trod enc Try.prog W 0 (fun _ => true) true 36 v d p) :
    ∃ (d : Dfa) (cs : Array Value) (o : Option Addr) (cap : Nat) (ao : Option Addr) (acap : Nat), v = .agg cs ∧ DAt (In W) W d cs o cap ao acap := by
  unfold Value.okWide at hok
  rw [Try.underlying36] at hok
  obtain ⟨cs, rfl, _⟩ := hok
  obtain ⟨fuel, hf⟩ := h
  obtain ⟨xs, n, hfu, hx, hl, hlen, hf⟩ := DataW.trod_struct Try.underlying36 hf
  have c37 : Try.prog.cellsOf 36 = 258 := by kernel_rfl
  have c33 : Try.prog.cellsOf 33 = 256 := by kernel_rfl
  have c34 : Try.prog.cellsOf 29 = 1 := by kernel_rfl
  have c35 : Try.prog.cellsOf 34 = 1 := by kernel_rfl
  have c5 : Try.prog.cellsOf 5 = 1 := by kernel_rfl
  rw [c37] at hl
  have hsz : cs.size = 258 := by simpa [Value.cells] using hl
  match xs, hlen with
  | [y0, y1, y2], _ =>
    have f0 : DataW.trod enc Try.prog W 0 _ _ n 33 (List.take (Try.prog.cellsOf 33) (List.drop 0 _)) = some y0 := hf 0 _ rfl
    have f1 : DataW.trod enc Try.prog W 0 _ _ n 29 (List.take (Try.prog.cellsOf 29) (List.drop 256 _)) = some y1 := hf 1 _ rfl
    have f2 : DataW.trod enc Try.prog W 0 _ _ n 34 (List.take (Try.prog.cellsOf 34) (List.drop 257 _)) = some y2 := hf 2 _ rfl
    rw [c33] at f0
    rw [c34] at f1
    rw [c35] at f2
    obtain ⟨o, cap, l, e1, hr⟩ := rows_of f1
    obtain ⟨ao, acap, al, e2, ha⟩ := bools_of f2
    obtain ⟨zs, m, _, _, _, hzl, hz⟩ := DataW.trod_array Try.underlying33 f0
    rw [c5] at hz
    have each : ∀ i, i < 256 → ∃ k : Nat, k < 256 ∧ cs[i]? = some (.int .u8 (k : Int)) := fun i hi => by
      have h1 := hz i hi
      rw [List.getElem?_eq_getElem (by omega)] at h1
      obtain ⟨z, e, _, wz⟩ := DataW.trod_int Try.underlying5 h1
      have r := u8_range wz
      obtain ⟨k, rfl⟩ := Int.eq_ofNat_of_zero_le r.1
      refine ⟨k, by omega, ?_⟩
      have e' := congrArg (·[0]?) e
      simp [Value.cells, List.getElem?_drop, hi] at e'
      exact e'
    obtain ⟨f, hf2⟩ := Deep.choose_lt (α := Nat) each
    have e1' := congrArg (·[0]?) e1
    simp [Value.cells, List.getElem?_drop] at e1'
    have e2' := congrArg (·[0]?) e2
    simp [Value.cells, List.getElem?_drop] at e2'
    exact ⟨⟨fun i => if i < 256 then f i else 0, l, al⟩, cs, o, cap, ao, acap, rfl, hsz, fun i hi => by simp [hi, (hf2 i hi).2], fun i => by
      by_cases hi : i < 256
      · simp [hi, (hf2 i hi).1]
      · simp [hi], e1', e2', hr, ha⟩
end
end Go.Proofs.Ytmmlibehihknbaa.df
