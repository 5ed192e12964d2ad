/-
  Any number of stages that came in as an argument.
-/
import Derived.Test.YtmmlibehihknbaaM20
import Derived.Test.YtmmlibehihknbaaKRk
import Derived.Test.YtmmlibehihknbaaKTk
namespace Go.Proofs.Ytmmlibehihknbaa.ir
open Go.ChangeShapes Go.WideShapes Go.ChangeAt Go.RowKit
open mg (Row In iv IntsV chain below_alloc Mg Mgs app idsOf)
open df (Dfa DAt)
open tr (Mc Mp mv MAt)
set_option linter.unusedVariables false
set_option maxRecDepth 100000

section
variable {H : Type} {enc : TypeId × Value → H} {W : World} {sp : Nat → Bool} {held : Bool}
theorem machm_of {fuel : Nat} {cs : List Value} {y : DataW H × List MemPlace} (h : DataW.trod enc Try.prog W 0 sp held fuel 32 cs = some y) : ∃ m q, cs = (mv m q).toList ∧ MAt (tr.In W) W m q := by
  obtain ⟨xs, n, hfu, hx, hl, hlen, hf⟩ := DataW.trod_struct Try.underlying32 h
  have c32 : Try.prog.cellsOf 32 = 4 := by kernel_rfl
  have c25 : Try.prog.cellsOf 25 = 1 := by kernel_rfl
  have c29 : Try.prog.cellsOf 29 = 1 := by kernel_rfl
  have c30 : Try.prog.cellsOf 30 = 1 := by kernel_rfl
  rw [c32] at hl
  match cs, hl with
  | [v0, v1, v2, v3], _ =>
    match xs, hlen with
    | [y0, y1, y2, y3], _ =>
      have f0 : DataW.trod enc Try.prog W 0 _ _ n 29 (List.take (Try.prog.cellsOf 29) (List.drop 0 [v0, v1, v2, v3])) = some y0 := hf 0 _ rfl
      have f1 : DataW.trod enc Try.prog W 0 _ _ n 29 (List.take (Try.prog.cellsOf 29) (List.drop 1 [v0, v1, v2, v3])) = some y1 := hf 1 _ rfl
      have f2 : DataW.trod enc Try.prog W 0 _ _ n 25 (List.take (Try.prog.cellsOf 25) (List.drop 2 [v0, v1, v2, v3])) = some y2 := hf 2 _ rfl
      have f3 : DataW.trod enc Try.prog W 0 _ _ n 30 (List.take (Try.prog.cellsOf 30) (List.drop 3 [v0, v1, v2, v3])) = some y3 := hf 3 _ rfl
      rw [c29] at f0 f1
      rw [c25] at f2
      rw [c30] at f3
      obtain ⟨o0, p0, l0, e0, r0⟩ := tr.rows_of f0
      obtain ⟨o1, p1, l1, e1, r1⟩ := tr.rows_of f1
      obtain ⟨o2, p2, l2, e2, r2⟩ := tr.ints_of f2
      obtain ⟨o3, p3, l3, e3, r3⟩ := tr.strs_of f3
      simp at e0 e1 e2 e3
      subst e0 e1 e2 e3
      exact ⟨⟨l0, l1, l2, l3⟩, ⟨o0, p0, o1, p1, o2, p2, o3, p3⟩, rfl, r0, r1, r2, r3⟩
theorem stagem_of {cs : List Value} {fuel : Nat} {y : DataW H × List MemPlace} (h : DataW.trod enc Try.prog W 0 sp held fuel 39 cs = some y) : ∃ x : Sm, cs = svL x.g x.p ∧ SmAt W x := by
  obtain ⟨xs, n, hfu, hx, hl, hlen, hf⟩ := DataW.trod_struct Try.underlying39 h
  have c39 : Try.prog.cellsOf 39 = 523 := by kernel_rfl
  have c3 : Try.prog.cellsOf 3 = 1 := by kernel_rfl
  have c32 : Try.prog.cellsOf 32 = 4 := by kernel_rfl
  have c36 : Try.prog.cellsOf 36 = 258 := by kernel_rfl
  have c33 : Try.prog.cellsOf 33 = 256 := by kernel_rfl
  have c37 : Try.prog.cellsOf 37 = 1 := by kernel_rfl
  have c25 : Try.prog.cellsOf 25 = 1 := by kernel_rfl
  rw [c39] at hl
  match xs, hlen with
  | [y0, y1, y2, y3, y4, y5, y6, y7], _ =>
    have f0 : DataW.trod enc Try.prog W 0 _ _ n 3 (List.take (Try.prog.cellsOf 3) (List.drop 0 cs)) = some y0 := hf 0 _ rfl
    have f1 : DataW.trod enc Try.prog W 0 _ _ n 32 (List.take (Try.prog.cellsOf 32) (List.drop 1 cs)) = some y1 := hf 1 _ rfl
    have f2 : DataW.trod enc Try.prog W 0 _ _ n 36 (List.take (Try.prog.cellsOf 36) (List.drop 5 cs)) = some y2 := hf 2 _ rfl
    have f3 : DataW.trod enc Try.prog W 0 _ _ n 33 (List.take (Try.prog.cellsOf 33) (List.drop 263 cs)) = some y3 := hf 3 _ rfl
    have f4 : DataW.trod enc Try.prog W 0 _ _ n 37 (List.take (Try.prog.cellsOf 37) (List.drop 519 cs)) = some y4 := hf 4 _ rfl
    have f5 : DataW.trod enc Try.prog W 0 _ _ n 25 (List.take (Try.prog.cellsOf 25) (List.drop 520 cs)) = some y5 := hf 5 _ rfl
    have f6 : DataW.trod enc Try.prog W 0 _ _ n 25 (List.take (Try.prog.cellsOf 25) (List.drop 521 cs)) = some y6 := hf 6 _ rfl
    have f7 : DataW.trod enc Try.prog W 0 _ _ n 25 (List.take (Try.prog.cellsOf 25) (List.drop 522 cs)) = some y7 := hf 7 _ rfl
    rw [c3] at f0
    rw [c32] at f1
    rw [c36] at f2
    rw [c33] at f3
    rw [c37] at f4
    rw [c25] at f5 f6 f7
    have s0 := split cs 0 1
    have s1 := split cs 1 4
    have s2 := split cs 5 258
    have s3 := split cs 263 256
    have s4 := split cs 519 1
    have s5 := split cs 520 1
    have s6 := split cs 521 1
    have s7 := split cs 522 1
    have s8 : cs.drop 523 = [] := List.drop_eq_nil_of_le (by omega)
    obtain ⟨z, e0, _, _⟩ := DataW.trod_int Try.underlying3 f0
    obtain ⟨l1, o1⟩ := mach_of f1
    obtain ⟨mm, mq, em, hmm⟩ := machm_of f1
    obtain ⟨D, hD⟩ : ∃ D : Array Value, D.toList = List.take 258 (List.drop 5 cs) := ⟨_, rfl⟩
    rw [← hD] at f2 s2
    obtain ⟨d, o, cap, ao, acap, hd⟩ := dfa_of f2
    obtain ⟨mp, e3, hmp⟩ := bytes_of f3
    obtain ⟨vm, ms, e4, hm⟩ := mgs_of f4
    obtain ⟨vd, dr, e5, h5⟩ := ints_of f5
    obtain ⟨vb, bf, e6, h6⟩ := ints_of f6
    obtain ⟨va, af, e7, h7⟩ := ints_of f7
    refine ⟨⟨⟨z, List.take 4 (List.drop 1 cs), d, mp, ms, dr, bf, af⟩, ⟨D, o, cap, ao, acap, vm, vd, vb, va⟩, mm, mq⟩, ?_, ⟨⟨l1, o1, hd, hmp, hm, h5, h6, h7⟩, em, hmm⟩⟩
    rw [e0] at s0
    rw [e3] at s3
    rw [e4] at s4
    rw [e5] at s5
    rw [e6] at s6
    rw [e7, s8] at s7
    show cs = .int .i64 z :: (List.take 4 (List.drop 1 cs) ++ (D.toList ++ (mapL mp ++ [vm, vd, vb, va])))
    have t : cs = cs.drop 0 := rfl
    conv => lhs; rw [t, s0, s1, s2, s3, s4, s5, s6, s7]
    simp
end
theorem openGs {H : Type} {enc : TypeId × Value → H} {W : World} {base : Nat} {v : Value} {d : DataW H} {q : List MemPlace} (hok : Value.okWide Try.prog W .any base 22 v) (h : DataW.Trod enc Try.prog W 0 (fun _ => true) true 22 v d q) :
    ∃ (o : Option Addr) (cap : Nat) (l : List Sm), v = .slice o l.length cap ∧ Gs W o cap l := by
  obtain ⟨fuel, hf⟩ := h
  have hv : ∃ o n c, v = .slice o n c := by
    unfold Value.okWide at hok
    rw [Try.underlying22] at hok
    cases v with
    | slice o n c => exact ⟨o, n, c, rfl⟩
    | _ => exact False.elim (by simp [Cell.okWide, Cell.ok, Try.underlying22] at hok)
  obtain ⟨o, n, c, rfl⟩ := hv
  have c39 : Try.prog.cellsOf 39 = 523 := by kernel_rfl
  rcases Deep.open_slice Try.underlying22 hf with ⟨e, _⟩ | ⟨a, len, cap, m, n', D, Pl, e, _, hl, hm, hmm, _, hall⟩
  · simp [Value.cells] at e
    obtain ⟨rfl, rfl, rfl⟩ := e
    exact ⟨none, 0, [], rfl, ⟨by simp, by omega, fun i hi => by simp at hi⟩⟩
  · simp [Value.cells] at e
    obtain ⟨rfl, rfl, rfl⟩ := e
    have hlm : n ≤ m := by rw [hmm]; split <;> omega
    rw [c39] at hall
    have each : ∀ i, i < n → ∃ x : Sm, W.cells? 0 (a.add (i * 523)) 523 = some (svL x.g x.p) ∧ SmAt W x := fun i hi => by
      obtain ⟨cs, k, t⟩ := hall i (by omega)
      obtain ⟨x, rfl, hs⟩ := stagem_of t
      exact ⟨x, k, hs⟩
    have each2 : ∃ l : List Sm, l.length = n ∧ ∀ i (hi : i < l.length), W.cells? 0 (a.add (i * 523)) 523 = some (svL l[i].g l[i].p) ∧ SmAt W l[i] := by
      let f : Nat → Sm := fun i => if hi : i < n then (each i hi).choose else ⟨⟨0, [], ⟨fun _ => 0, [], []⟩, fun _ => 0, [], [], [], []⟩, ⟨#[], none, 0, none, 0, .nilFunc, .nilFunc, .nilFunc, .nilFunc⟩, ⟨[], [], [], []⟩, ⟨none, 0, none, 0, none, 0, none, 0⟩⟩
      refine ⟨(List.range n).map f, by simp, fun i hi => ?_⟩
      have hi2 : i < n := by simpa using hi
      have e : ((List.range n).map f)[i] = (each i hi2).choose := by simp [f, hi2]
      rw [e]
      exact (each i hi2).choose_spec
    obtain ⟨l, rfl, hx⟩ := each2
    unfold maxLen at hm
    refine ⟨some a, c, l, rfl, ⟨hl, hm, fun i hi => ?_⟩⟩
    obtain ⟨b, off, spot⟩ := a
    have k0 := (World.cells?_some (hx 0 (by omega)).1).2.2
    have z0 := (hx 0 (by omega)).2.s.len
    have h1 : W.cell? ⟨b, off, spot⟩ = some (.int .i64 l[0].g.kind) := by
      have := k0 0 (by omega)
      simp only [Nat.zero_mul, Addr.add_zero'] at this
      exact this
    have hspot : spot = none := by simpa using World.cell?_spot h1
    subst hspot
    obtain ⟨hk, hs⟩ := hx i hi
    have h := (World.cells?_some hk).2.2
    refine ⟨b, off, rfl, block_lt_of_cell h1, fun j v hj => ?_, hs⟩
    have hl2 := (List.getElem?_eq_some_iff.1 hj).1
    rw [hs.s.len] at hl2
    have := h j hl2
    rw [hj, Addr.add_mid, Addr.add_mid] at this
    exact this
end Go.Proofs.Ytmmlibehihknbaa.ir
