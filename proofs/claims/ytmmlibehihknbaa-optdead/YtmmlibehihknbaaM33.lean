/-
  Texts put together: Stages that came in as an argument: what their reading says of the memory. A machine that came in as an argument: what its reading says of the memory. Any number of stages that came in as an argument.
-/
import Derived.Test.YtmmlibehihknbaaKRj
import Derived.Test.YtmmlibehihknbaaM14
import Derived.Deep.SlicePairs
import Derived.Test.YtmmlibehihknbaaM22
import Derived.Laws.IdiomArrays
import Derived.Deep.Slices
import Derived.SizedLaws
import Derived.ChangeOld
import Derived.Below
import Derived.OpenShut
import Derived.Test.YtmmlibehihknbaaM20
namespace Go.Proofs.Ytmmlibehihknbaa.ir
open Go.ChangeShapes Go.WideShapes Go.ChangeAt Go.RowKit
open mg (Row In iv IntsV chain below_alloc Mg Mgs app idsOf)
open df (Dfa DAt)
set_option linter.unusedVariables false
set_option maxRecDepth 100000

section
variable {H : Type} {enc : TypeId × Value → H} {W : World} {sp : Nat → Bool} {held : Bool}
theorem slice_one {t e : TypeId} (ht : Try.prog.underlying t = some (.slice e)) {fuel : Nat} {cs : List Value} {x : DataW H × List MemPlace} (h : DataW.trod enc Try.prog W 0 sp held fuel t cs = some x) : ∃ v : Value, cs = [v] ∧ v.oneCell' = true := by
  rcases Deep.open_slice ht h with ⟨rfl, _⟩ | ⟨a, len, cap, m, n, D, Pl, rfl, _⟩
  · exact ⟨_, rfl, rfl⟩
  · exact ⟨_, rfl, rfl⟩
theorem ints_of {fuel : Nat} {cs : List Value} {x : DataW H × List MemPlace} (h : DataW.trod enc Try.prog W 0 sp held fuel 25 cs = some x) : ∃ v l, cs = [v] ∧ IntsV W v l := by
  obtain ⟨o, cap, l, rfl, r⟩ := df.ints_of h
  exact ⟨_, l, rfl, o, cap, rfl, r.fit, r.top, r.lie⟩
theorem mgs_of {fuel : Nat} {cs : List Value} {y : DataW H × List MemPlace} (h : DataW.trod enc Try.prog W 0 sp held fuel 37 cs = some y) : ∃ v l, cs = [v] ∧ Mgs W v l := by
  rcases Deep.open_slice_pairs Try.underlying37 Try.underlying70 (by kernel_rfl) rfl rfl (by kernel_rfl) (by kernel_rfl) h with ⟨hcs, _⟩ | ⟨x, len, cap, m, n, V0, V1, D0, D1, P0, P1, hcs, _, hl, hm, hmm, hx, hall⟩
  · subst hcs
    exact ⟨_, [], rfl, ⟨_, _, rfl, Nat.le_refl _, by omega, fun i h => by simp at h⟩⟩
  · subst hcs
    have hlm : len ≤ m := by rw [hmm]; split <;> omega
    have each : ∀ i, i < len → ∃ y : Mg, W.cell? (x.add (i * 2)) = some (iv y.1) ∧ W.cell? (x.add (i * 2 + 1)) = some (iv y.2) := by
      intro i hi
      obtain ⟨c0, c1, t0, t1⟩ := hall i (by omega)
      obtain ⟨s0, e0, y0, ws0⟩ := DataW.trod_int Try.underlying3 t0
      obtain ⟨s1, e1, y1, ws1⟩ := DataW.trod_int Try.underlying3 t1
      simp at e0 e1
      exact ⟨(s0, s1), by rw [c0, e0], by rw [c1, e1]⟩
    obtain ⟨f, hfam⟩ := Deep.choose_lt each
    have hlen : ((List.range len).map f).length = len := by simp
    refine ⟨_, (List.range len).map f, rfl, ⟨some x, cap, by rw [hlen], by rw [hlen]; exact hl, by unfold maxLen at hm; omega, fun i hi => ?_⟩⟩
    rw [hlen] at hi
    obtain ⟨b, off, spot⟩ := x
    have hc := (hfam 0 (by omega)).1
    have hspot : spot = none := by simpa [Addr.add] using World.cell?_spot hc
    subst hspot
    have hadd : ∀ i, (⟨b, off, none⟩ : Addr).add i = ⟨b, off + i, none⟩ := fun i => by simp [Addr.add]
    rw [hadd] at hc
    have h := hfam i hi
    rw [hadd, hadd] at h
    refine ⟨b, off, rfl, block_lt_of_cell hc, ?_, ?_⟩
    · rw [h.1]; simp
    · rw [Nat.add_assoc, h.2]; simp
theorem mach_of {fuel : Nat} {cs : List Value} {y : DataW H × List MemPlace} (h : DataW.trod enc Try.prog W 0 sp held fuel 32 cs = some y) : cs.length = 4 ∧ ∀ v ∈ cs, v.oneCell' = true := by
  obtain ⟨xs, n, hfu, hx, hl, hlen, hf⟩ := DataW.trod_struct Try.underlying32 h
  have c32 : Try.prog.cellsOf 32 = 4 := by kernel_rfl
  have c25 : Try.prog.cellsOf 25 = 1 := by kernel_rfl
  have c29 : Try.prog.cellsOf 29 = 1 := by kernel_rfl
  have c30 : Try.prog.cellsOf 30 = 1 := by kernel_rfl
  rw [c32] at hl
  match cs, hl with
  | [v0, v1, v2, v3], _ =>
    match xs, hlen with
    | [y0, y1, y2, y3], _ =>
      have f0 : DataW.trod enc Try.prog W 0 _ _ n 29 (List.take (Try.prog.cellsOf 29) (List.drop 0 [v0, v1, v2, v3])) = some y0 := hf 0 _ rfl
      have f1 : DataW.trod enc Try.prog W 0 _ _ n 29 (List.take (Try.prog.cellsOf 29) (List.drop 1 [v0, v1, v2, v3])) = some y1 := hf 1 _ rfl
      have f2 : DataW.trod enc Try.prog W 0 _ _ n 25 (List.take (Try.prog.cellsOf 25) (List.drop 2 [v0, v1, v2, v3])) = some y2 := hf 2 _ rfl
      have f3 : DataW.trod enc Try.prog W 0 _ _ n 30 (List.take (Try.prog.cellsOf 30) (List.drop 3 [v0, v1, v2, v3])) = some y3 := hf 3 _ rfl
      rw [c29] at f0 f1
      rw [c25] at f2
      rw [c30] at f3
      obtain ⟨u0, e0, o0⟩ := slice_one Try.underlying29 f0
      obtain ⟨u1, e1, o1⟩ := slice_one Try.underlying29 f1
      obtain ⟨u2, e2, o2⟩ := slice_one Try.underlying25 f2
      obtain ⟨u3, e3, o3⟩ := slice_one Try.underlying30 f3
      simp at e0 e1 e2 e3
      subst e0 e1 e2 e3
      refine ⟨rfl, fun v hv => ?_⟩
      simp at hv
      rcases hv with rfl | rfl | rfl | rfl <;> assumption
theorem bytes_of {fuel : Nat} {cs : List Value} {y : DataW H × List MemPlace} (h : DataW.trod enc Try.prog W 0 sp held fuel 33 cs = some y) : ∃ mp : Nat → Nat, cs = mapL mp ∧ ∀ b, mp b < 256 := by
  have c5 : Try.prog.cellsOf 5 = 1 := by kernel_rfl
  have c33 : Try.prog.cellsOf 33 = 256 := by kernel_rfl
  obtain ⟨zs, m, _, _, hl, hzl, hz⟩ := DataW.trod_array Try.underlying33 h
  rw [c5] at hz
  rw [c33] at hl
  have each : ∀ i, i < 256 → ∃ k : Nat, k < 256 ∧ cs[i]? = some (.int .u8 (k : Int)) := fun i hi => by
    have h1 := hz i hi
    rw [List.getElem?_eq_getElem (by omega)] at h1
    obtain ⟨z, e, _, wz⟩ := DataW.trod_int Try.underlying5 h1
    have r := df.u8_range wz
    obtain ⟨k, rfl⟩ := Int.eq_ofNat_of_zero_le r.1
    refine ⟨k, by omega, ?_⟩
    have e' := congrArg (·[0]?) e
    simp [List.getElem?_drop] at e'
    exact e'
  obtain ⟨f, hf2⟩ := Deep.choose_lt (α := Nat) each
  refine ⟨fun i => if i < 256 then f i else 0, ?_, fun b => ?_⟩
  · apply List.ext_getElem?
    intro i
    by_cases hi : i < 256
    · rw [(hf2 i hi).2, mapL_at _ i hi, if_pos hi]
    · rw [List.getElem?_eq_none (by omega), List.getElem?_eq_none (by rw [mapL_len]; omega)]
  · show (if b < 256 then f b else 0) < 256
    split
    · exact (hf2 b ‹_›).1
    · omega
theorem dfa_of {cs : Array Value} {fuel : Nat} {y : DataW H × List MemPlace} (h : DataW.trod enc Try.prog W 0 sp held fuel 36 cs.toList = some y) :
    ∃ (d : Dfa) (o : Option Addr) (cap : Nat) (ao : Option Addr) (acap : Nat), DAt (df.In W) W d cs o cap ao acap := by
  obtain ⟨xs, n, hfu, hx, hl, hlen, hf⟩ := DataW.trod_struct Try.underlying36 h
  have c37 : Try.prog.cellsOf 36 = 258 := by kernel_rfl
  have c33 : Try.prog.cellsOf 33 = 256 := by kernel_rfl
  have c34 : Try.prog.cellsOf 29 = 1 := by kernel_rfl
  have c35 : Try.prog.cellsOf 34 = 1 := by kernel_rfl
  rw [c37] at hl
  have hsz : cs.size = 258 := by simpa using hl
  match xs, hlen with
  | [y0, y1, y2], _ =>
    have f0 : DataW.trod enc Try.prog W 0 _ _ n 33 (List.take (Try.prog.cellsOf 33) (List.drop 0 _)) = some y0 := hf 0 _ rfl
    have f1 : DataW.trod enc Try.prog W 0 _ _ n 29 (List.take (Try.prog.cellsOf 29) (List.drop 256 _)) = some y1 := hf 1 _ rfl
    have f2 : DataW.trod enc Try.prog W 0 _ _ n 34 (List.take (Try.prog.cellsOf 34) (List.drop 257 _)) = some y2 := hf 2 _ rfl
    rw [c33] at f0
    rw [c34] at f1
    rw [c35] at f2
    obtain ⟨o, cap, l, e1, hr⟩ := df.rows_of f1
    obtain ⟨ao, acap, al, e2, ha⟩ := df.bools_of f2
    obtain ⟨mp, e0, hmp⟩ := bytes_of f0
    have e1' := congrArg (·[0]?) e1
    simp [List.getElem?_drop] at e1'
    have e2' := congrArg (·[0]?) e2
    simp [List.getElem?_drop] at e2'
    refine ⟨⟨mp, l, al⟩, o, cap, ao, acap, hsz, fun i hi => ?_, hmp, e1', e2', hr, ha⟩
    have e0' := congrArg (·[i]?) e0
    simp only [List.drop_zero] at e0'
    rw [List.getElem?_take_of_lt hi, mapL_at _ i hi] at e0'
    simpa using e0'
theorem split (l : List Value) (a k : Nat) : l.drop a = (l.drop a).take k ++ l.drop (a + k) := by
  rw [← List.drop_drop, List.take_append_drop]
theorem stage_of {cs : List Value} {fuel : Nat} {y : DataW H × List MemPlace} (h : DataW.trod enc Try.prog W 0 sp held fuel 39 cs = some y) : ∃ g p, cs = svL g p ∧ SgAt W g p := by
  obtain ⟨xs, n, hfu, hx, hl, hlen, hf⟩ := DataW.trod_struct Try.underlying39 h
  have c39 : Try.prog.cellsOf 39 = 523 := by kernel_rfl
  have c3 : Try.prog.cellsOf 3 = 1 := by kernel_rfl
  have c32 : Try.prog.cellsOf 32 = 4 := by kernel_rfl
  have c36 : Try.prog.cellsOf 36 = 258 := by kernel_rfl
  have c33 : Try.prog.cellsOf 33 = 256 := by kernel_rfl
  have c37 : Try.prog.cellsOf 37 = 1 := by kernel_rfl
  have c25 : Try.prog.cellsOf 25 = 1 := by kernel_rfl
  rw [c39] at hl
  match xs, hlen with
  | [y0, y1, y2, y3, y4, y5, y6, y7], _ =>
    have f0 : DataW.trod enc Try.prog W 0 _ _ n 3 (List.take (Try.prog.cellsOf 3) (List.drop 0 cs)) = some y0 := hf 0 _ rfl
    have f1 : DataW.trod enc Try.prog W 0 _ _ n 32 (List.take (Try.prog.cellsOf 32) (List.drop 1 cs)) = some y1 := hf 1 _ rfl
    have f2 : DataW.trod enc Try.prog W 0 _ _ n 36 (List.take (Try.prog.cellsOf 36) (List.drop 5 cs)) = some y2 := hf 2 _ rfl
    have f3 : DataW.trod enc Try.prog W 0 _ _ n 33 (List.take (Try.prog.cellsOf 33) (List.drop 263 cs)) = some y3 := hf 3 _ rfl
    have f4 : DataW.trod enc Try.prog W 0 _ _ n 37 (List.take (Try.prog.cellsOf 37) (List.drop 519 cs)) = some y4 := hf 4 _ rfl
    have f5 : DataW.trod enc Try.prog W 0 _ _ n 25 (List.take (Try.prog.cellsOf 25) (List.drop 520 cs)) = some y5 := hf 5 _ rfl
    have f6 : DataW.trod enc Try.prog W 0 _ _ n 25 (List.take (Try.prog.cellsOf 25) (List.drop 521 cs)) = some y6 := hf 6 _ rfl
    have f7 : DataW.trod enc Try.prog W 0 _ _ n 25 (List.take (Try.prog.cellsOf 25) (List.drop 522 cs)) = some y7 := hf 7 _ rfl
    rw [c3] at f0
    rw [c32] at f1
    rw [c36] at f2
    rw [c33] at f3
    rw [c37] at f4
    rw [c25] at f5 f6 f7
    have s0 := split cs 0 1
    have s1 := split cs 1 4
    have s2 := split cs 5 258
    have s3 := split cs 263 256
    have s4 := split cs 519 1
    have s5 := split cs 520 1
    have s6 := split cs 521 1
    have s7 := split cs 522 1
    have s8 : cs.drop 523 = [] := List.drop_eq_nil_of_le (by omega)
    obtain ⟨z, e0, _, _⟩ := DataW.trod_int Try.underlying3 f0
    obtain ⟨l1, o1⟩ := mach_of f1
    obtain ⟨D, hD⟩ : ∃ D : Array Value, D.toList = List.take 258 (List.drop 5 cs) := ⟨_, rfl⟩
    rw [← hD] at f2 s2
    obtain ⟨d, o, cap, ao, acap, hd⟩ := dfa_of f2
    obtain ⟨mp, e3, hmp⟩ := bytes_of f3
    obtain ⟨vm, ms, e4, hm⟩ := mgs_of f4
    obtain ⟨vd, dr, e5, h5⟩ := ints_of f5
    obtain ⟨vb, bf, e6, h6⟩ := ints_of f6
    obtain ⟨va, af, e7, h7⟩ := ints_of f7
    refine ⟨⟨z, List.take 4 (List.drop 1 cs), d, mp, ms, dr, bf, af⟩, ⟨D, o, cap, ao, acap, vm, vd, vb, va⟩, ?_, ⟨l1, o1, hd, hmp, hm, h5, h6, h7⟩⟩
    rw [e0] at s0
    rw [e3] at s3
    rw [e4] at s4
    rw [e5] at s5
    rw [e6] at s6
    rw [e7, s8] at s7
    show cs = .int .i64 z :: (List.take 4 (List.drop 1 cs) ++ (D.toList ++ (mapL mp ++ [vm, vd, vb, va])))
    have t : cs = cs.drop 0 := rfl
    conv => lhs; rw [t, s0, s1, s2, s3, s4, s5, s6, s7]
    simp
end
theorem open22 {H : Type} {enc : TypeId × Value → H} {W : World} {base : Nat} {v : Value} {d : DataW H} {q : List MemPlace} (hok : Value.okWide Try.prog W .any base 22 v) (h : DataW.Trod enc Try.prog W 0 (fun _ => true) true 22 v d q) :
    ∃ (o : Option Addr) (n cap : Nat), v = .slice o n cap ∧ (n = 3 → ∃ b off g0 g1 g2 p0 p1 p2, o = some ⟨b, off, none⟩ ∧ 3 ≤ cap ∧ cap ≤ 9223372036854775807 ∧ Sgs W b off g0 g1 g2 p0 p1 p2) := by
  obtain ⟨fuel, hf⟩ := h
  have hv : ∃ o n c, v = .slice o n c := by
    unfold Value.okWide at hok
    rw [Try.underlying22] at hok
    cases v with
    | slice o n c => exact ⟨o, n, c, rfl⟩
    | _ => exact False.elim (by simp [Cell.okWide, Cell.ok, Try.underlying22] at hok)
  obtain ⟨o, n, c, rfl⟩ := hv
  refine ⟨o, n, c, rfl, fun hn => ?_⟩
  subst hn
  have c39 : Try.prog.cellsOf 39 = 523 := by kernel_rfl
  rcases Deep.open_slice Try.underlying22 hf with ⟨e, _⟩ | ⟨a, len, cap, m, n, D, Pl, e, _, hl, hm, hmm, _, hall⟩
  · simp [Value.cells] at e
  · simp [Value.cells] at e
    obtain ⟨rfl, rfl, rfl⟩ := e
    have hlm : 3 ≤ m := by rw [hmm]; split <;> omega
    rw [c39] at hall
    obtain ⟨c0, k0, t0⟩ := hall 0 (by omega)
    obtain ⟨c1, k1, t1⟩ := hall 1 (by omega)
    obtain ⟨c2, k2, t2⟩ := hall 2 (by omega)
    obtain ⟨g0, p0, rfl, s0⟩ := stage_of t0
    obtain ⟨g1, p1, rfl, s1⟩ := stage_of t1
    obtain ⟨g2, p2, rfl, s2⟩ := stage_of t2
    have k0 := (World.cells?_some k0).2.2
    have k1 := (World.cells?_some k1).2.2
    have k2 := (World.cells?_some k2).2.2
    obtain ⟨b, off, spot⟩ := a
    have h1 : W.cell? ⟨b, off, spot⟩ = some (.int .i64 g0.kind) := by
      have := k0 0 (by omega)
      simp only [Nat.zero_mul, Addr.add_zero'] at this
      exact this
    have hspot : spot = none := by simpa using World.cell?_spot h1
    subst hspot
    have rg : ∀ {j : Nat} {g : Sg} {p : Sp}, SgAt W g p → (∀ i, i < 523 → W.cell? (((⟨b, off, none⟩ : Addr).add j).add i) = (svL g p)[i]?) → W.rangeAt b (off + j) (svL g p) := fun {j g p} hs h i v hi => by
      have hl := (List.getElem?_eq_some_iff.1 hi).1
      rw [hs.len] at hl
      have := h i hl
      rw [hi] at this
      rw [Addr.add_mid, Addr.add_mid] at this
      exact this
    unfold maxLen at hm
    exact ⟨b, off, g0, g1, g2, p0, p1, p2, rfl, hl, hm, block_lt_of_cell h1, by simpa using rg s0 k0, rg s1 k1, rg s2 k2, s0, s1, s2⟩
end Go.Proofs.Ytmmlibehihknbaa.ir

namespace Go.Proofs.Ytmmlibehihknbaa.tr
open Go.ChangeShapes Go.WideShapes Go.ChangeAt Go.RowKit
set_option linter.unusedVariables false

section
variable {H : Type} {enc : TypeId × Value → H} {W : World} {sp : Nat → Bool} {held : Bool}
theorem row_of {α : Type} [Inhabited α] (g : α → Value) (Pr : α → Prop) {t e : TypeId} (ht : Try.prog.underlying t = some (.slice e)) (hc : Try.prog.cellsOf e = 1)
    (dec : ∀ n V y, DataW.trod enc Try.prog W 0 sp held n e [V] = some y → ∃ x, V = g x ∧ Pr x) {fuel : Nat} {cs : List Value} {x : DataW H × List MemPlace} (h : DataW.trod enc Try.prog W 0 sp held fuel t cs = some x) :
    ∃ (o : Option Addr) (cap : Nat) (l : List α), cs = [.slice o l.length cap] ∧ Row (In W) W g o cap l ∧ ∀ x ∈ l, Pr x := by
  rcases Deep.open_slice1 ht hc h with ⟨rfl, _⟩ | ⟨a, len, cap, m, n, V, D, Pl, rfl, hb, hl, hm, hmm, _, hV⟩
  · exact ⟨none, 0, [], rfl, ⟨Nat.le_refl _, by omega, fun i hi => by simp at hi⟩, by simp⟩
  · have hlm : len ≤ m := by rw [hmm]; split <;> omega
    obtain ⟨f, hf⟩ := Deep.choose_lt (α := α) (p := fun i x => V i = g x ∧ Pr x) (fun i (hi : i < len) => dec n (V i) _ (hV i (by omega)).2)
    have hln : ((List.range len).map f).length = len := by simp
    unfold maxLen at hm
    refine ⟨some a, cap, (List.range len).map f, by rw [hln], ⟨by rw [hln]; exact hl, hm, fun i hi => ?_⟩, fun x hx => ?_⟩
    · rw [hln] at hi
      obtain ⟨b, off, spot⟩ := a
      have h1 := (hV i (by omega)).1
      have hspot : spot = none := by simpa [Addr.add] using World.cell?_spot (hV 0 (by omega)).1
      subst hspot
      have hadd : (⟨b, off, none⟩ : Addr).add i = ⟨b, off + i, none⟩ := by simp [Addr.add]
      rw [hadd] at h1
      refine ⟨b, off, rfl, block_lt_of_cell h1, ?_⟩
      rw [h1, (hf i hi).1]
      simp
    · obtain ⟨i, hi, rfl⟩ := List.mem_map.1 hx
      exact (hf i (List.mem_range.1 hi)).2
theorem ints_of {fuel : Nat} {cs : List Value} {x : DataW H × List MemPlace} (h : DataW.trod enc Try.prog W 0 sp held fuel 25 cs = some x) :
    ∃ (o : Option Addr) (cap : Nat) (l : List Int), cs = [.slice o l.length cap] ∧ Row (In W) W iv o cap l := by
  obtain ⟨o, cap, l, h1, h2, _⟩ := row_of iv (fun _ => True) Try.underlying25 (by kernel_rfl) (fun n V y h => by
    obtain ⟨z, e, _, _⟩ := DataW.trod_int Try.underlying3 h
    simp at e
    exact ⟨z, e, trivial⟩) h
  exact ⟨o, cap, l, h1, h2⟩
theorem strs_of {fuel : Nat} {cs : List Value} {x : DataW H × List MemPlace} (h : DataW.trod enc Try.prog W 0 sp held fuel 30 cs = some x) :
    ∃ (o : Option Addr) (cap : Nat) (l : List ByteArray), cs = [.slice o l.length cap] ∧ Row (In W) W sv o cap l := by
  obtain ⟨o, cap, l, h1, h2, _⟩ := row_of sv (fun _ => True) Try.underlying30 (by kernel_rfl) (fun n V y h => by
    obtain ⟨z, e, _⟩ := DataW.trod_string Try.underlying9 h
    simp at e
    exact ⟨z, e, trivial⟩) h
  exact ⟨o, cap, l, h1, h2⟩
theorem rows_of {fuel : Nat} {cs : List Value} {x : DataW H × List MemPlace} (h : DataW.trod enc Try.prog W 0 sp held fuel 29 cs = some x) :
    ∃ (o : Option Addr) (cap : Nat) (l : List (List Int)), cs = [.slice o l.length cap] ∧ RowRow (In W) W o cap l := by
  obtain ⟨o, cap, l, h1, h2, h3⟩ := row_of (α := List Int × Option Addr × Nat) (fun x => .slice x.2.1 x.1.length x.2.2) (fun x => Row (In W) W iv x.2.1 x.2.2 x.1) Try.underlying29 (by kernel_rfl) (fun n V y h => by
    obtain ⟨o, cap, l, e, hr⟩ := ints_of h
    simp at e
    exact ⟨(l, o, cap), e, hr⟩) h
  refine ⟨o, cap, l.map (·.1), by simpa using h1, by simpa using h2.fit, h2.top, fun i hi => ?_⟩
  have hi2 : i < l.length := by simpa using hi
  obtain ⟨b, off, e, hb, hc⟩ := h2.lie i hi2
  exact ⟨b, off, l[i].2.1, l[i].2.2, e, hb, by simpa using hc, by simpa using h3 _ (List.getElem_mem hi2)⟩
set_option maxRecDepth 100000 in
theorem open32 {base : Nat} {v : Value} {d : DataW H} {q : List MemPlace} (hok : Value.okWide Try.prog W .any base 32 v) (h : DataW.Trod enc Try.prog W 0 (fun _ => true) true 32 v d q) :
    ∃ (m : Mc) (p : Mp), v = .agg (mv m p) ∧ MAt (In W) W m p := by
  unfold Value.okWide at hok
  rw [Try.underlying32] at hok
  obtain ⟨cs, rfl, _⟩ := hok
  obtain ⟨fuel, hf⟩ := h
  obtain ⟨xs, n, hfu, hx, hl, hlen, hf⟩ := DataW.trod_struct Try.underlying32 hf
  have c26 : Try.prog.cellsOf 32 = 4 := by kernel_rfl
  have c22 : Try.prog.cellsOf 29 = 1 := by kernel_rfl
  have c23 : Try.prog.cellsOf 25 = 1 := by kernel_rfl
  have c24 : Try.prog.cellsOf 30 = 1 := by kernel_rfl
  rw [c26] at hl
  have hsz : cs.size = 4 := by simpa [Value.cells] using hl
  match xs, hlen with
  | [y0, y1, y2, y3], _ =>
    have f0 : DataW.trod enc Try.prog W 0 _ _ n 29 (List.take (Try.prog.cellsOf 29) (List.drop 0 _)) = some y0 := hf 0 _ rfl
    have f1 : DataW.trod enc Try.prog W 0 _ _ n 29 (List.take (Try.prog.cellsOf 29) (List.drop 1 _)) = some y1 := hf 1 _ rfl
    have f2 : DataW.trod enc Try.prog W 0 _ _ n 25 (List.take (Try.prog.cellsOf 25) (List.drop 2 _)) = some y2 := hf 2 _ rfl
    have f3 : DataW.trod enc Try.prog W 0 _ _ n 30 (List.take (Try.prog.cellsOf 30) (List.drop 3 _)) = some y3 := hf 3 _ rfl
    rw [c22] at f0 f1
    rw [c23] at f2
    rw [c24] at f3
    obtain ⟨o0, p0, l0, e0, r0⟩ := rows_of f0
    obtain ⟨o1, p1, l1, e1, r1⟩ := rows_of f1
    obtain ⟨o2, p2, l2, e2, r2⟩ := ints_of f2
    obtain ⟨o3, p3, l3, e3, r3⟩ := strs_of f3
    have g0 := congrArg (·[0]?) e0
    have g1 := congrArg (·[0]?) e1
    have g2 := congrArg (·[0]?) e2
    have g3 := congrArg (·[0]?) e3
    simp [Value.cells] at g0
    simp [Value.cells, List.getElem?_drop] at g1 g2 g3
    refine ⟨⟨l0, l1, l2, l3⟩, ⟨o0, p0, o1, p1, o2, p2, o3, p3⟩, ?_, r0, r1, r2, r3⟩
    congr 1
    apply Array.ext_getElem?
    intro i
    match i with
    | 0 => rw [g0]; rfl
    | 1 => rw [g1]; rfl
    | 2 => rw [g2]; rfl
    | 3 => rw [g3]; rfl
    | (k + 4) => rw [Array.getElem?_eq_none (by omega), Array.getElem?_eq_none (by simp)]
end
end Go.Proofs.Ytmmlibehihknbaa.tr

namespace Go.Proofs.Ytmmlibehihknbaa.ir
open Go.ChangeShapes Go.WideShapes Go.ChangeAt Go.RowKit
open mg (Row In iv IntsV chain below_alloc Mg Mgs app idsOf)
open df (Dfa DAt)
open tr (Mc Mp mv MAt)
set_option linter.unusedVariables false
set_option maxRecDepth 100000

section
variable {H : Type} {enc : TypeId × Value → H} {W : World} {sp : Nat → Bool} {held : Bool}
theorem machm_of {fuel : Nat} {cs : List Value} {y : DataW H × List MemPlace} (h : DataW.trod enc Try.prog W 0 sp held fuel 32 cs = some y) : ∃ m q, cs = (mv m q).toList ∧ MAt (tr.In W) W m q := by
  obtain ⟨xs, n, hfu, hx, hl, hlen, hf⟩ := DataW.trod_struct Try.underlying32 h
  have c32 : Try.prog.cellsOf 32 = 4 := by kernel_rfl
  have c25 : Try.prog.cellsOf 25 = 1 := by kernel_rfl
  have c29 : Try.prog.cellsOf 29 = 1 := by kernel_rfl
  have c30 : Try.prog.cellsOf 30 = 1 := by kernel_rfl
  rw [c32] at hl
  match cs, hl with
  | [v0, v1, v2, v3], _ =>
    match xs, hlen with
    | [y0, y1, y2, y3], _ =>
      have f0 : DataW.trod enc Try.prog W 0 _ _ n 29 (List.take (Try.prog.cellsOf 29) (List.drop 0 [v0, v1, v2, v3])) = some y0 := hf 0 _ rfl
      have f1 : DataW.trod enc Try.prog W 0 _ _ n 29 (List.take (Try.prog.cellsOf 29) (List.drop 1 [v0, v1, v2, v3])) = some y1 := hf 1 _ rfl
      have f2 : DataW.trod enc Try.prog W 0 _ _ n 25 (List.take (Try.prog.cellsOf 25) (List.drop 2 [v0, v1, v2, v3])) = some y2 := hf 2 _ rfl
      have f3 : DataW.trod enc Try.prog W 0 _ _ n 30 (List.take (Try.prog.cellsOf 30) (List.drop 3 [v0, v1, v2, v3])) = some y3 := hf 3 _ rfl
      rw [c29] at f0 f1
      rw [c25] at f2
      rw [c30] at f3
      obtain ⟨o0, p0, l0, e0, r0⟩ := tr.rows_of f0
      obtain ⟨o1, p1, l1, e1, r1⟩ := tr.rows_of f1
      obtain ⟨o2, p2, l2, e2, r2⟩ := tr.ints_of f2
      obtain ⟨o3, p3, l3, e3, r3⟩ := tr.strs_of f3
      simp at e0 e1 e2 e3
      subst e0 e1 e2 e3
      exact ⟨⟨l0, l1, l2, l3⟩, ⟨o0, p0, o1, p1, o2, p2, o3, p3⟩, rfl, r0, r1, r2, r3⟩
theorem stagem_of {cs : List Value} {fuel : Nat} {y : DataW H × List MemPlace} (h : DataW.trod enc Try.prog W 0 sp held fuel 39 cs = some y) : ∃ x : Sm, cs = svL x.g x.p ∧ SmAt W x := by
  obtain ⟨xs, n, hfu, hx, hl, hlen, hf⟩ := DataW.trod_struct Try.underlying39 h
  have c39 : Try.prog.cellsOf 39 = 523 := by kernel_rfl
  have c3 : Try.prog.cellsOf 3 = 1 := by kernel_rfl
  have c32 : Try.prog.cellsOf 32 = 4 := by kernel_rfl
  have c36 : Try.prog.cellsOf 36 = 258 := by kernel_rfl
  have c33 : Try.prog.cellsOf 33 = 256 := by kernel_rfl
  have c37 : Try.prog.cellsOf 37 = 1 := by kernel_rfl
  have c25 : Try.prog.cellsOf 25 = 1 := by kernel_rfl
  rw [c39] at hl
  match xs, hlen with
  | [y0, y1, y2, y3, y4, y5, y6, y7], _ =>
    have f0 : DataW.trod enc Try.prog W 0 _ _ n 3 (List.take (Try.prog.cellsOf 3) (List.drop 0 cs)) = some y0 := hf 0 _ rfl
    have f1 : DataW.trod enc Try.prog W 0 _ _ n 32 (List.take (Try.prog.cellsOf 32) (List.drop 1 cs)) = some y1 := hf 1 _ rfl
    have f2 : DataW.trod enc Try.prog W 0 _ _ n 36 (List.take (Try.prog.cellsOf 36) (List.drop 5 cs)) = some y2 := hf 2 _ rfl
    have f3 : DataW.trod enc Try.prog W 0 _ _ n 33 (List.take (Try.prog.cellsOf 33) (List.drop 263 cs)) = some y3 := hf 3 _ rfl
    have f4 : DataW.trod enc Try.prog W 0 _ _ n 37 (List.take (Try.prog.cellsOf 37) (List.drop 519 cs)) = some y4 := hf 4 _ rfl
    have f5 : DataW.trod enc Try.prog W 0 _ _ n 25 (List.take (Try.prog.cellsOf 25) (List.drop 520 cs)) = some y5 := hf 5 _ rfl
    have f6 : DataW.trod enc Try.prog W 0 _ _ n 25 (List.take (Try.prog.cellsOf 25) (List.drop 521 cs)) = some y6 := hf 6 _ rfl
    have f7 : DataW.trod enc Try.prog W 0 _ _ n 25 (List.take (Try.prog.cellsOf 25) (List.drop 522 cs)) = some y7 := hf 7 _ rfl
    rw [c3] at f0
    rw [c32] at f1
    rw [c36] at f2
    rw [c33] at f3
    rw [c37] at f4
    rw [c25] at f5 f6 f7
    have s0 := split cs 0 1
    have s1 := split cs 1 4
    have s2 := split cs 5 258
    have s3 := split cs 263 256
    have s4 := split cs 519 1
    have s5 := split cs 520 1
    have s6 := split cs 521 1
    have s7 := split cs 522 1
    have s8 : cs.drop 523 = [] := List.drop_eq_nil_of_le (by omega)
    obtain ⟨z, e0, _, _⟩ := DataW.trod_int Try.underlying3 f0
    obtain ⟨l1, o1⟩ := mach_of f1
    obtain ⟨mm, mq, em, hmm⟩ := machm_of f1
    obtain ⟨D, hD⟩ : ∃ D : Array Value, D.toList = List.take 258 (List.drop 5 cs) := ⟨_, rfl⟩
    rw [← hD] at f2 s2
    obtain ⟨d, o, cap, ao, acap, hd⟩ := dfa_of f2
    obtain ⟨mp, e3, hmp⟩ := bytes_of f3
    obtain ⟨vm, ms, e4, hm⟩ := mgs_of f4
    obtain ⟨vd, dr, e5, h5⟩ := ints_of f5
    obtain ⟨vb, bf, e6, h6⟩ := ints_of f6
    obtain ⟨va, af, e7, h7⟩ := ints_of f7
    refine ⟨⟨⟨z, List.take 4 (List.drop 1 cs), d, mp, ms, dr, bf, af⟩, ⟨D, o, cap, ao, acap, vm, vd, vb, va⟩, mm, mq⟩, ?_, ⟨⟨l1, o1, hd, hmp, hm, h5, h6, h7⟩, em, hmm⟩⟩
    rw [e0] at s0
    rw [e3] at s3
    rw [e4] at s4
    rw [e5] at s5
    rw [e6] at s6
    rw [e7, s8] at s7
    show cs = .int .i64 z :: (List.take 4 (List.drop 1 cs) ++ (D.toList ++ (mapL mp ++ [vm, vd, vb, va])))
    have t : cs = cs.drop 0 := rfl
    conv => lhs; rw [t, s0, s1, s2, s3, s4, s5, s6, s7]
    simp
end
theorem openGs {H : Type} {enc : TypeId × Value → H} {W : World} {base : Nat} {v : Value} {d : DataW H} {q : List MemPlace} (hok : Value.okWide Try.prog W .any base 22 v) (h : DataW.Trod enc Try.prog W 0 (fun _ => true) true 22 v d q) :
    ∃ (o : Option Addr) (cap : Nat) (l : List Sm), v = .slice o l.length cap ∧ Gs W o cap l := by
  obtain ⟨fuel, hf⟩ := h
  have hv : ∃ o n c, v = .slice o n c := by
    unfold Value.okWide at hok
    rw [Try.underlying22] at hok
    cases v with
    | slice o n c => exact ⟨o, n, c, rfl⟩
    | _ => exact False.elim (by simp [Cell.okWide, Cell.ok, Try.underlying22] at hok)
  obtain ⟨o, n, c, rfl⟩ := hv
  have c39 : Try.prog.cellsOf 39 = 523 := by kernel_rfl
  rcases Deep.open_slice Try.underlying22 hf with ⟨e, _⟩ | ⟨a, len, cap, m, n', D, Pl, e, _, hl, hm, hmm, _, hall⟩
  · simp [Value.cells] at e
    obtain ⟨rfl, rfl, rfl⟩ := e
    exact ⟨none, 0, [], rfl, ⟨by simp, by omega, fun i hi => by simp at hi⟩⟩
  · simp [Value.cells] at e
    obtain ⟨rfl, rfl, rfl⟩ := e
    have hlm : n ≤ m := by rw [hmm]; split <;> omega
    rw [c39] at hall
    have each : ∀ i, i < n → ∃ x : Sm, W.cells? 0 (a.add (i * 523)) 523 = some (svL x.g x.p) ∧ SmAt W x := fun i hi => by
      obtain ⟨cs, k, t⟩ := hall i (by omega)
      obtain ⟨x, rfl, hs⟩ := stagem_of t
      exact ⟨x, k, hs⟩
    have each2 : ∃ l : List Sm, l.length = n ∧ ∀ i (hi : i < l.length), W.cells? 0 (a.add (i * 523)) 523 = some (svL l[i].g l[i].p) ∧ SmAt W l[i] := by
      let f : Nat → Sm := fun i => if hi : i < n then (each i hi).choose else ⟨⟨0, [], ⟨fun _ => 0, [], []⟩, fun _ => 0, [], [], [], []⟩, ⟨#[], none, 0, none, 0, .nilFunc, .nilFunc, .nilFunc, .nilFunc⟩, ⟨[], [], [], []⟩, ⟨none, 0, none, 0, none, 0, none, 0⟩⟩
      refine ⟨(List.range n).map f, by simp, fun i hi => ?_⟩
      have hi2 : i < n := by simpa using hi
      have e : ((List.range n).map f)[i] = (each i hi2).choose := by simp [f, hi2]
      rw [e]
      exact (each i hi2).choose_spec
    obtain ⟨l, rfl, hx⟩ := each2
    unfold maxLen at hm
    refine ⟨some a, c, l, rfl, ⟨hl, hm, fun i hi => ?_⟩⟩
    obtain ⟨b, off, spot⟩ := a
    have k0 := (World.cells?_some (hx 0 (by omega)).1).2.2
    have z0 := (hx 0 (by omega)).2.s.len
    have h1 : W.cell? ⟨b, off, spot⟩ = some (.int .i64 l[0].g.kind) := by
      have := k0 0 (by omega)
      simp only [Nat.zero_mul, Addr.add_zero'] at this
      exact this
    have hspot : spot = none := by simpa using World.cell?_spot h1
    subst hspot
    obtain ⟨hk, hs⟩ := hx i hi
    have h := (World.cells?_some hk).2.2
    refine ⟨b, off, rfl, block_lt_of_cell h1, fun j v hj => ?_, hs⟩
    have hl2 := (List.getElem?_eq_some_iff.1 hj).1
    rw [hs.s.len] at hl2
    have := h j hl2
    rw [hj, Addr.add_mid, Addr.add_mid] at this
    exact this
end Go.Proofs.Ytmmlibehihknbaa.ir
