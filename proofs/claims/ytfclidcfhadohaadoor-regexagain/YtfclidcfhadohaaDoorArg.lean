/-
  Trees that came in as arguments: what their readings say of the memory.
-/
import Derived.Test.YtfclidcfhadohaaDoorMem
namespace Go.Proofs.YtfclidcfhadohaaDoor.st
open Go.ChangeShapes Go.WideShapes Go.ChangeAt Go.RowKit
set_option linter.unusedVariables false
set_option maxRecDepth 100000

theorem u64_rangeT {a : Int} (h : (Lit.int .u64 a).wf = true) : 0 ≤ a ∧ a < 18446744073709551616 := by
  have e1 : IntKind.u64.min = 0 := by decide
  have e2 : IntKind.u64.max = 18446744073709551615 := by decide
  simp [Lit.wf] at h
  rw [e1, e2] at h
  omega
theorem i64_rangeT {a : Int} (h : (Lit.int .i64 a).wf = true) : -9223372036854775808 ≤ a ∧ a < 9223372036854775808 := by
  have e1 : IntKind.i64.min = -9223372036854775808 := by decide
  simp [Lit.wf] at h
  rw [e1] at h
  omega

mutual
def Tr.sane : Tr → Prop
  | .node k q mn mx l => Fits q ∧ (-9223372036854775808 ≤ k ∧ k < 9223372036854775808) ∧ (-9223372036854775808 ≤ mn ∧ mn < 9223372036854775808) ∧ (-9223372036854775808 ≤ mx ∧ mx < 9223372036854775808) ∧ sanes l
def sanes : List Tr → Prop
  | [] => True
  | t :: l => t.sane ∧ sanes l
end
theorem sanes_of (l : List Tr) (h : ∀ t ∈ l, t.sane) : sanes l := by
  induction l with
  | nil => trivial
  | cons t l ih => exact ⟨h t (by simp), ih fun x hx => h x (by simp [hx])⟩

theorem row25 {H : Type} {enc : TypeId × Value → H} {W : World} {base : Nat} {sp : Nat → Bool} {held : Bool} {fuel : Nat} {cs : List Value} {x : DataW H × List MemPlace} (h : DataW.trod enc Tryd.prog W base sp held fuel 25 cs = some x) :
    ∃ q : Q4, Fits q ∧ cs = [.int .u64 q.a, .int .u64 q.b, .int .u64 q.c, .int .u64 q.d] := by
  obtain ⟨y, n, _, hl, h1⟩ := trod_struct1 Tryd.underlying25 h
  have c25 : Tryd.prog.cellsOf 25 = 4 := by kernel_rfl
  have c23 : Tryd.prog.cellsOf 23 = 4 := by kernel_rfl
  have c22 : Tryd.prog.cellsOf 22 = 1 := by kernel_rfl
  rw [c25] at hl
  match cs, hl with
  | [v0, v1, v2, v3], _ =>
    rw [c23] at h1
    simp only [List.drop_zero] at h1
    obtain ⟨y0, y1, y2, y3, m, _, t0, t1, t2, t3⟩ := trod_array4 Tryd.underlying23 c22 (show DataW.trod enc Tryd.prog W base sp held n 23 [v0, v1, v2, v3] = some y from h1)
    obtain ⟨z0, e0, _, w0⟩ := DataW.trod_int Tryd.underlying22 t0
    obtain ⟨z1, e1, _, w1⟩ := DataW.trod_int Tryd.underlying22 t1
    obtain ⟨z2, e2, _, w2⟩ := DataW.trod_int Tryd.underlying22 t2
    obtain ⟨z3, e3, _, w3⟩ := DataW.trod_int Tryd.underlying22 t3
    simp at e0 e1 e2 e3
    have r0 := u64_rangeT w0
    have r1 := u64_rangeT w1
    have r2 := u64_rangeT w2
    have r3 := u64_rangeT w3
    obtain ⟨k0, rfl⟩ := Int.eq_ofNat_of_zero_le r0.1
    obtain ⟨k1, rfl⟩ := Int.eq_ofNat_of_zero_le r1.1
    obtain ⟨k2, rfl⟩ := Int.eq_ofNat_of_zero_le r2.1
    obtain ⟨k3, rfl⟩ := Int.eq_ofNat_of_zero_le r3.1
    exact ⟨⟨k0, k1, k2, k3⟩, ⟨by show k0 < _; omega, by show k1 < _; omega, by show k2 < _; omega, by show k3 < _; omega⟩, by rw [e0, e1, e2, e3]⟩

theorem parts28 {H : Type} {enc : TypeId × Value → H} {W : World} {sp : Nat → Bool} {held : Bool} {fuel : Nat} {cs : List Value} {x : DataW H × List MemPlace} (h : DataW.trod enc Tryd.prog W 0 sp held fuel 28 cs = some x) :
    ∃ (k : Int) (q : Q4) (mn mx : Int) (v : Value) (n : Nat) (y : DataW H × List MemPlace), fuel = n + 1 ∧ Fits q ∧ (-9223372036854775808 ≤ k ∧ k < 9223372036854775808) ∧ (-9223372036854775808 ≤ mn ∧ mn < 9223372036854775808) ∧ (-9223372036854775808 ≤ mx ∧ mx < 9223372036854775808) ∧
      cs = [.int .i64 k, .int .u64 q.a, .int .u64 q.b, .int .u64 q.c, .int .u64 q.d, .int .i64 mn, .int .i64 mx, v] ∧ DataW.trod enc Tryd.prog W 0 sp held n 26 [v] = some y := by
  obtain ⟨xs, n, hfu, hx, hl, hlen, hf⟩ := DataW.trod_struct Tryd.underlying28 h
  have c28 : Tryd.prog.cellsOf 28 = 8 := by kernel_rfl
  have c25 : Tryd.prog.cellsOf 25 = 4 := by kernel_rfl
  have c26 : Tryd.prog.cellsOf 26 = 1 := by kernel_rfl
  have c3 : Tryd.prog.cellsOf 3 = 1 := by kernel_rfl
  rw [c28] at hl
  match cs, hl with
  | [v0, v1, v2, v3, v4, v5, v6, v7], _ =>
    match xs, hlen with
    | [y0, y1, y2, y3, y4], _ =>
      have f0 : DataW.trod enc Tryd.prog W 0 sp held n 3 (List.take (Tryd.prog.cellsOf 3) (List.drop 0 [v0, v1, v2, v3, v4, v5, v6, v7])) = some y0 := hf 0 _ rfl
      rw [c3] at f0
      have f1 : DataW.trod enc Tryd.prog W 0 sp held n 25 (List.take (Tryd.prog.cellsOf 25) (List.drop 1 [v0, v1, v2, v3, v4, v5, v6, v7])) = some y1 := hf 1 _ rfl
      rw [c25] at f1
      have f2 : DataW.trod enc Tryd.prog W 0 sp held n 3 (List.take (Tryd.prog.cellsOf 3) (List.drop 5 [v0, v1, v2, v3, v4, v5, v6, v7])) = some y2 := hf 2 _ rfl
      rw [c3] at f2
      have f3 : DataW.trod enc Tryd.prog W 0 sp held n 3 (List.take (Tryd.prog.cellsOf 3) (List.drop 6 [v0, v1, v2, v3, v4, v5, v6, v7])) = some y3 := hf 3 _ rfl
      rw [c3] at f3
      have f4 : DataW.trod enc Tryd.prog W 0 sp held n 26 (List.take (Tryd.prog.cellsOf 26) (List.drop 7 [v0, v1, v2, v3, v4, v5, v6, v7])) = some y4 := hf 4 _ rfl
      rw [c26] at f4
      obtain ⟨k, e0, _, w0⟩ := DataW.trod_int Tryd.underlying3 f0
      obtain ⟨q, hq, e1⟩ := row25 (show DataW.trod enc Tryd.prog W 0 sp held n 25 [v1, v2, v3, v4] = some y1 from f1)
      obtain ⟨mn, e2, _, w2⟩ := DataW.trod_int Tryd.underlying3 f2
      obtain ⟨mx, e3, _, w3⟩ := DataW.trod_int Tryd.underlying3 f3
      simp at e0 e1 e2 e3
      refine ⟨k, q, mn, mx, v7, n, y4, hfu, hq, i64_rangeT w0, i64_rangeT w2, i64_rangeT w3, ?_, ?_⟩
      · rw [e0, e1.1, e1.2.1, e1.2.2.1, e1.2.2.2, e2, e3]
      · exact f4

theorem tree_of {H : Type} {enc : TypeId × Value → H} {W : World} {sp : Nat → Bool} {held : Bool} (F : Nat) : ∀ (fuel : Nat), fuel ≤ F → ∀ (cs : List Value) (x : DataW H × List MemPlace), DataW.trod enc Tryd.prog W 0 sp held fuel 28 cs = some x →
    ∃ (t : Tr) (v : Value), t.sane ∧ Is W (fun _ => True) t v ∧ cs = [.int .i64 t.kind, .int .u64 t.set.a, .int .u64 t.set.b, .int .u64 t.set.c, .int .u64 t.set.d, .int .i64 t.min, .int .i64 t.max, v] := by
  induction F with
  | zero =>
    intro fuel hF cs x h
    obtain ⟨k, q, mn, mx, v, n, y, hn, _⟩ := parts28 h
    omega
  | succ F ih =>
    intro fuel hF cs x h
    obtain ⟨k, q, mn, mx, v, n, y, hn, hq, rk, rmn, rmx, hcs, hsl⟩ := parts28 h
    rcases DataW.trod_slice Tryd.underlying26 hsl with ⟨hcs2, _⟩ | ⟨a, len, cap, elems, rest, m, hm, hcs2, _, _, hlc, hmax, hlen, hel, _, _⟩
    · simp at hcs2
      exact ⟨.node k q mn mx [], _, ⟨hq, rk, rmn, rmx, trivial⟩, by rw [hcs2]; exact .leaf k q mn mx _ _, hcs⟩
    · simp at hcs2
      subst hcs2
      have c28 : Tryd.prog.cellsOf 28 = 8 := by kernel_rfl
      rw [c28] at hel
      have each : ∀ i, i < len → ∃ y : Tr × Value, y.1.sane ∧ Is W (fun _ => True) y.1 y.2 ∧ (W.cell? (a.add (i * 8)) = some (.int .i64 y.1.kind) ∧ W.cell? (a.add (i * 8 + 1)) = some (.int .u64 y.1.set.a) ∧ W.cell? (a.add (i * 8 + 2)) = some (.int .u64 y.1.set.b) ∧ W.cell? (a.add (i * 8 + 3)) = some (.int .u64 y.1.set.c) ∧
          W.cell? (a.add (i * 8 + 4)) = some (.int .u64 y.1.set.d) ∧ W.cell? (a.add (i * 8 + 5)) = some (.int .i64 y.1.min) ∧ W.cell? (a.add (i * 8 + 6)) = some (.int .i64 y.1.max) ∧ W.cell? (a.add (i * 8 + 7)) = some y.2) := by
        intro i hi
        have h1 := hel i hi
        rw [List.getElem?_eq_getElem (by omega)] at h1
        obtain ⟨cs', h2, h3⟩ := Option.bind_eq_some_iff.1 h1
        obtain ⟨t, v, hs, hi2, rfl⟩ := ih m (by omega) cs' _ h3
        obtain ⟨_, hlen', hcell⟩ := World.cells?_some h2
        have e0 := hcell 0 (by omega)
        have e1 := hcell 1 (by omega)
        have e2 := hcell 2 (by omega)
        have e3 := hcell 3 (by omega)
        have e4 := hcell 4 (by omega)
        have e5 := hcell 5 (by omega)
        have e6 := hcell 6 (by omega)
        have e7 := hcell 7 (by omega)
        rw [Deep.add_add] at e0 e1 e2 e3 e4 e5 e6 e7
        exact ⟨(t, v), hs, hi2, by simpa using e0, by simpa using e1, by simpa using e2, by simpa using e3, by simpa using e4, by simpa using e5, by simpa using e6, by simpa using e7⟩
      letI : Inhabited (Tr × Value) := ⟨(Tr.zero, .nilIface)⟩
      obtain ⟨f, hfam⟩ := Deep.choose_lt each
      by_cases h0 : len = 0
      · subst h0
        exact ⟨.node k q mn mx [], _, ⟨hq, rk, rmn, rmx, trivial⟩, .leaf k q mn mx _ _, hcs⟩
      · obtain ⟨b, off, spot⟩ := a
        have hc := (hfam 0 (by omega)).2.2.1
        have hspot : spot = none := by simpa [Addr.add] using World.cell?_spot hc
        subst hspot
        have hadd : ∀ i, (⟨b, off, none⟩ : Addr).add i = ⟨b, off + i, none⟩ := fun i => by simp [Addr.add]
        have hlt : b < W.heap.size := by
          rw [hadd] at hc
          unfold World.cell? at hc
          by_cases hb : b < W.heap.size
          · exact hb
          · rw [Array.getElem?_eq_none (by simpa using hb)] at hc
            simp at hc
        have hln : ((List.range len).map (fun i => (f i).1)).length = len := by simp
        have hnth : ∀ i, i < len → nthT ((List.range len).map (fun i => (f i).1)) i = (f i).1 := by
          intro i hi
          unfold nthT
          rw [List.getD_eq_getElem?_getD, List.getElem?_map, List.getElem?_range hi]
          rfl
        refine ⟨.node k q mn mx ((List.range len).map (fun i => (f i).1)), .slice (some ⟨b, off, none⟩) len cap, ⟨hq, rk, rmn, rmx, ?_⟩, ?_, hcs⟩
        · apply sanes_of
          intro t ht
          obtain ⟨i, hi, rfl⟩ := List.mem_map.1 ht
          exact (hfam i (List.mem_range.1 hi)).1
        · have key : Is W (fun _ => True) (.node k q mn mx ((List.range len).map (fun i => (f i).1))) (.slice (some ⟨b, off, none⟩) ((List.range len).map (fun i => (f i).1)).length cap) := by
            refine .node k q mn mx _ b off cap (fun i => (f i).2) (by rw [hln]; exact hlc) (by unfold maxLen at hmax; omega) hlt trivial ?_ ?_
            · intro i hi
              rw [hln] at hi
              have h := (hfam i hi).2.2
              simp only [hadd] at h
              rw [hnth i hi]
              unfold Cells
              simp only [Nat.add_assoc]
              exact h
            · intro i hi
              rw [hln] at hi
              rw [hnth i hi]
              exact (hfam i hi).2.1
          rw [hln] at key
          exact key

theorem open28 {H : Type} {enc : TypeId × Value → H} {W : World} {base : Nat} {v : Value} {d : DataW H} {p : List MemPlace} (hok : Value.okWide Tryd.prog W .any base 28 v) (h : DataW.Trod enc Tryd.prog W 0 (fun _ => true) true 28 v d p) :
    ∃ (t : Tr) (s : Value), t.sane ∧ Is W (fun _ => True) t s ∧ v = .agg #[.int .i64 t.kind, .int .u64 t.set.a, .int .u64 t.set.b, .int .u64 t.set.c, .int .u64 t.set.d, .int .i64 t.min, .int .i64 t.max, s] := by
  unfold Value.okWide at hok
  rw [Tryd.underlying28] at hok
  obtain ⟨cs, rfl, _⟩ := hok
  obtain ⟨fuel, hf⟩ := h
  obtain ⟨t, s, hs, hi, e⟩ := tree_of fuel fuel (Nat.le_refl _) _ _ hf
  refine ⟨t, s, hs, hi, ?_⟩
  simp [Value.cells] at e
  rw [show cs = #[.int .i64 t.kind, .int .u64 t.set.a, .int .u64 t.set.b, .int .u64 t.set.c, .int .u64 t.set.d, .int .i64 t.min, .int .i64 t.max, s] from Array.toList_inj.1 e]
end Go.Proofs.YtfclidcfhadohaaDoor.st
