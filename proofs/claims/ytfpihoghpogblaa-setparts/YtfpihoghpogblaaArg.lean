/-
  Sets, and lists of sets, that came in as arguments: what their readings say of the memory.
-/
import Derived.Test.YtfpihoghpogblaaHas
import Derived.Laws.IdiomArrays
import Derived.Deep.Slices
import Derived.SizedLaws
import Derived.ChangeOld
import Derived.Below
namespace Go.Proofs.Ytfpihoghpogblaa.st
open Go.ChangeShapes Go.WideShapes Go.ChangeAt Go.RowKit
set_option linter.unusedVariables false

theorem u64_range {a : Int} (h : (Lit.int .u64 a).wf = true) : 0 ≤ a ∧ a < 18446744073709551616 := by
  have e1 : IntKind.u64.min = 0 := by decide
  have e2 : IntKind.u64.max = 18446744073709551615 := by decide
  simp [Lit.wf] at h
  rw [e1, e2] at h
  omega
theorem u8_range {a : Int} (h : (Lit.int .u8 a).wf = true) : 0 ≤ a ∧ a < 256 := by
  have e1 : IntKind.u8.min = 0 := by decide
  have e2 : IntKind.u8.max = 255 := by decide
  simp [Lit.wf] at h
  rw [e1, e2] at h
  omega
theorem i64_range {a : Int} (h : (Lit.int .i64 a).wf = true) : -9223372036854775808 ≤ a ∧ a < 9223372036854775808 := by
  have e1 : IntKind.i64.min = -9223372036854775808 := by decide
  simp [Lit.wf] at h
  rw [e1] at h
  omega

theorem row25 {H : Type} {enc : TypeId × Value → H} {W : World} {base : Nat} {sp : Nat → Bool} {held : Bool} {fuel : Nat} {cs : List Value} {x : DataW H × List MemPlace} (h : DataW.trod enc Try.prog W base sp held fuel 25 cs = some x) :
    ∃ q : Q4, Fits q ∧ cs = [.int .u64 q.a, .int .u64 q.b, .int .u64 q.c, .int .u64 q.d] := by
  obtain ⟨y, n, _, hl, h1⟩ := trod_struct1 Try.underlying25 h
  have c25 : Try.prog.cellsOf 25 = 4 := by kernel_rfl
  have c23 : Try.prog.cellsOf 23 = 4 := by kernel_rfl
  have c22 : Try.prog.cellsOf 22 = 1 := by kernel_rfl
  rw [c25] at hl
  match cs, hl with
  | [v0, v1, v2, v3], _ =>
    rw [c23] at h1
    simp only [List.drop_zero] at h1
    obtain ⟨y0, y1, y2, y3, m, _, t0, t1, t2, t3⟩ := trod_array4 Try.underlying23 c22 (show DataW.trod enc Try.prog W base sp held n 23 [v0, v1, v2, v3] = some y from h1)
    obtain ⟨z0, e0, _, w0⟩ := DataW.trod_int Try.underlying22 t0
    obtain ⟨z1, e1, _, w1⟩ := DataW.trod_int Try.underlying22 t1
    obtain ⟨z2, e2, _, w2⟩ := DataW.trod_int Try.underlying22 t2
    obtain ⟨z3, e3, _, w3⟩ := DataW.trod_int Try.underlying22 t3
    simp at e0 e1 e2 e3
    have r0 := u64_range w0
    have r1 := u64_range w1
    have r2 := u64_range w2
    have r3 := u64_range w3
    obtain ⟨k0, rfl⟩ := Int.eq_ofNat_of_zero_le r0.1
    obtain ⟨k1, rfl⟩ := Int.eq_ofNat_of_zero_le r1.1
    obtain ⟨k2, rfl⟩ := Int.eq_ofNat_of_zero_le r2.1
    obtain ⟨k3, rfl⟩ := Int.eq_ofNat_of_zero_le r3.1
    exact ⟨⟨k0, k1, k2, k3⟩, ⟨by show k0 < _; omega, by show k1 < _; omega, by show k2 < _; omega, by show k3 < _; omega⟩, by rw [e0, e1, e2, e3]⟩

theorem open25 {H : Type} {enc : TypeId × Value → H} {W : World} {base : Nat} {v : Value} {d : DataW H} {p : List MemPlace} (hok : Value.okWide Try.prog W .any base 25 v) (h : DataW.Trod enc Try.prog W 0 (fun _ => true) true 25 v d p) :
    ∃ q : Q4, Fits q ∧ v = .agg #[.int .u64 q.a, .int .u64 q.b, .int .u64 q.c, .int .u64 q.d] := by
  unfold Value.okWide at hok
  rw [Try.underlying25] at hok
  obtain ⟨cs, rfl, _⟩ := hok
  obtain ⟨fuel, hf⟩ := h
  obtain ⟨q, hq, e⟩ := row25 hf
  refine ⟨q, hq, ?_⟩
  simp [Value.cells] at e
  rw [show cs = #[.int .u64 q.a, .int .u64 q.b, .int .u64 q.c, .int .u64 q.d] from Array.toList_inj.1 e]

def nth (l : List Q4) (i : Nat) : Q4 := l.getD i none4

/-- a value that reads, in a world, as a list of sets -/
def Sets (w : World) (v : Value) (l : List Q4) : Prop :=
  (l = [] ∧ ∃ a cap, v = .slice a 0 cap) ∨
  (∃ b off cap, v = .slice (some ⟨b, off, none⟩) l.length cap ∧ l.length ≤ cap ∧ cap ≤ 9223372036854775807 ∧ b < w.heap.size ∧ ∀ i, i < l.length →
    w.cell? ⟨b, off + i * 4, none⟩ = some (.int .u64 (nth l i).a) ∧ w.cell? ⟨b, off + i * 4 + 1, none⟩ = some (.int .u64 (nth l i).b) ∧ w.cell? ⟨b, off + i * 4 + 2, none⟩ = some (.int .u64 (nth l i).c) ∧ w.cell? ⟨b, off + i * 4 + 3, none⟩ = some (.int .u64 (nth l i).d))

theorem Sets.below {w w' : World} {v : Value} {l : List Q4} (h : Sets w v l) (hb : Below w.heap.size w w') : Sets w' v l := by
  rcases h with h | ⟨b, off, cap, hv, hl, hm, hlt, hc⟩
  · exact .inl h
  · exact .inr ⟨b, off, cap, hv, hl, hm, Nat.lt_of_lt_of_le hlt hb.size, fun i hi => ⟨by rw [hb.cell hlt]; exact (hc i hi).1, by rw [hb.cell hlt]; exact (hc i hi).2.1, by rw [hb.cell hlt]; exact (hc i hi).2.2.1, by rw [hb.cell hlt]; exact (hc i hi).2.2.2⟩⟩

theorem nth_mem (l : List Q4) (i : Nat) (h : i < l.length) : nth l i ∈ l := by
  unfold nth
  rw [List.getD_eq_getElem?_getD, List.getElem?_eq_getElem h]
  exact List.getElem_mem h
theorem take_nth (l : List Q4) (i : Nat) (h : i < l.length) : l.take (i + 1) = l.take i ++ [nth l i] := by
  rw [List.take_succ_eq_append_getElem h]
  unfold nth
  rw [List.getD_eq_getElem?_getD, List.getElem?_eq_getElem h]
  rfl

instance : Inhabited Q4 := ⟨none4⟩

theorem sets_of {H : Type} {enc : TypeId × Value → H} {W : World} {a : Option Addr} {len cap : Nat} {d : DataW H} {p : List MemPlace} (h0 : DataW.Trod enc Try.prog W 0 (fun _ => true) true 35 (.slice a len cap) d p) :
    ∃ l, Sets W (.slice a len cap) l ∧ l.length = len ∧ ∀ x ∈ l, Fits x := by
  obtain ⟨fuel, hf⟩ := h0
  rcases Deep.open_slice Try.underlying35 hf with ⟨hcs, _⟩ | ⟨x, l, c, m, n, D, Pl, hcs, _, hl, hm, hmm, _, hx⟩
  · simp [Value.cells] at hcs
    obtain ⟨rfl, rfl, rfl⟩ := hcs
    exact ⟨[], .inl ⟨rfl, _, _, rfl⟩, rfl, by simp⟩
  · simp [Value.cells] at hcs
    obtain ⟨rfl, rfl, rfl⟩ := hcs
    have hlm : len ≤ m := by rw [hmm]; simp; omega
    have c25 : Try.prog.cellsOf 25 = 4 := by kernel_rfl
    have each : ∀ i, i < len → ∃ y : Q4, Fits y ∧ W.cell? (x.add (i * 4)) = some (.int .u64 y.a) ∧ W.cell? (x.add (i * 4 + 1)) = some (.int .u64 y.b) ∧ W.cell? (x.add (i * 4 + 2)) = some (.int .u64 y.c) ∧ W.cell? (x.add (i * 4 + 3)) = some (.int .u64 y.d) := by
      intro i hi
      obtain ⟨cs', h1, h2⟩ := hx i (by omega)
      rw [c25] at h1
      obtain ⟨_, hlen, hcell⟩ := World.cells?_some h1
      obtain ⟨q, hq, rfl⟩ := row25 h2
      have e0 := hcell 0 (by omega)
      have e1 := hcell 1 (by omega)
      have e2 := hcell 2 (by omega)
      have e3 := hcell 3 (by omega)
      rw [Deep.add_add] at e0 e1 e2 e3
      exact ⟨q, hq, by simpa using e0, by simpa using e1, by simpa using e2, by simpa using e3⟩
    obtain ⟨f, hfam⟩ := Deep.choose_lt each
    by_cases h0 : len = 0
    · subst h0
      exact ⟨[], .inl ⟨rfl, _, _, rfl⟩, rfl, by simp⟩
    · obtain ⟨b, off, spot⟩ := x
      have hc := (hfam 0 (by omega)).2.1
      have hspot : spot = none := by simpa [Addr.add] using World.cell?_spot hc
      subst hspot
      have hadd : ∀ i, (⟨b, off, none⟩ : Addr).add i = ⟨b, off + i, none⟩ := fun i => by simp [Addr.add]
      have hlt : b < W.heap.size := by
        rw [hadd] at hc
        unfold World.cell? at hc
        by_cases hb : b < W.heap.size
        · exact hb
        · rw [Array.getElem?_eq_none (by simpa using hb)] at hc
          simp at hc
      have hlen : ((List.range len).map f).length = len := by simp
      have hnth : ∀ i, i < len → nth ((List.range len).map f) i = f i := by
        intro i hi
        unfold nth
        rw [List.getD_eq_getElem?_getD, List.getElem?_map, List.getElem?_range hi]
        rfl
      refine ⟨(List.range len).map f, .inr ⟨b, off, cap, by rw [hlen], by omega, by unfold maxLen at hm; omega, hlt, fun i hi => ?_⟩, hlen, ?_⟩
      · rw [hlen] at hi
        have h := (hfam i hi).2
        rw [hadd, hadd, hadd, hadd] at h
        rw [hnth i hi, Nat.add_assoc, Nat.add_assoc, Nat.add_assoc]
        exact h
      · intro y hy
        obtain ⟨i, hi, rfl⟩ := List.mem_map.1 hy
        exact (hfam i (List.mem_range.1 hi)).1
end Go.Proofs.Ytfpihoghpogblaa.st
