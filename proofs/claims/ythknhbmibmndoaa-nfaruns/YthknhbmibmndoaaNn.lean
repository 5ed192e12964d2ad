/-
  Nfas that came in as arguments: what their readings say of the memory; few.
-/
import Derived.Test.YthknhbmibmndoaaNr
import Derived.Test.YthknhbmibmndoaaDl
namespace Go.Proofs.Ythknhbmibmndoaa.nf
open Go.ChangeShapes Go.WideShapes Go.ChangeAt Go.RowKit
set_option linter.unusedVariables false

theorem u64_range {a : Int} (h : (Lit.int .u64 a).wf = true) : 0 ≤ a ∧ a < 18446744073709551616 := by
  have e1 : IntKind.u64.min = 0 := by decide
  have e2 : IntKind.u64.max = 18446744073709551615 := by decide
  simp [Lit.wf] at h
  rw [e1, e2] at h
  omega
def Fits (x : Ed) : Prop := x.a < 18446744073709551616 ∧ x.b < 18446744073709551616 ∧ x.c < 18446744073709551616 ∧ x.d < 18446744073709551616
section
variable {H : Type} {enc : TypeId × Value → H} {W : World} {sp : Nat → Bool} {held : Bool}
set_option maxRecDepth 100000 in
theorem row60 {fuel : Nat} {cs : List Value} {x : DataW H × List MemPlace} (h : DataW.trod enc Try.prog W 0 sp held fuel 60 cs = some x) :
    ∃ a b c d : Nat, (a < 18446744073709551616 ∧ b < 18446744073709551616 ∧ c < 18446744073709551616 ∧ d < 18446744073709551616) ∧ cs = [.int .u64 a, .int .u64 b, .int .u64 c, .int .u64 d] := by
  obtain ⟨y, n, _, hl, h1⟩ := trod_struct1 Try.underlying60 h
  have c25 : Try.prog.cellsOf 60 = 4 := by kernel_rfl
  have c23 : Try.prog.cellsOf 58 = 4 := by kernel_rfl
  have c22 : Try.prog.cellsOf 57 = 1 := by kernel_rfl
  rw [c25] at hl
  match cs, hl with
  | [v0, v1, v2, v3], _ =>
    rw [c23] at h1
    simp only [List.drop_zero] at h1
    obtain ⟨y0, y1, y2, y3, m, _, t0, t1, t2, t3⟩ := trod_array4 Try.underlying58 c22 (show DataW.trod enc Try.prog W 0 sp held n 58 [v0, v1, v2, v3] = some y from h1)
    obtain ⟨z0, e0, _, w0⟩ := DataW.trod_int Try.underlying57 t0
    obtain ⟨z1, e1, _, w1⟩ := DataW.trod_int Try.underlying57 t1
    obtain ⟨z2, e2, _, w2⟩ := DataW.trod_int Try.underlying57 t2
    obtain ⟨z3, e3, _, w3⟩ := DataW.trod_int Try.underlying57 t3
    simp at e0 e1 e2 e3
    have r0 := u64_range w0
    have r1 := u64_range w1
    have r2 := u64_range w2
    have r3 := u64_range w3
    obtain ⟨k0, rfl⟩ := Int.eq_ofNat_of_zero_le r0.1
    obtain ⟨k1, rfl⟩ := Int.eq_ofNat_of_zero_le r1.1
    obtain ⟨k2, rfl⟩ := Int.eq_ofNat_of_zero_le r2.1
    obtain ⟨k3, rfl⟩ := Int.eq_ofNat_of_zero_le r3.1
    exact ⟨k0, k1, k2, k3, ⟨by omega, by omega, by omega, by omega⟩, by rw [e0, e1, e2, e3]⟩
set_option maxRecDepth 100000 in
theorem row62 {fuel : Nat} {cs : List Value} {x : DataW H × List MemPlace} (h : DataW.trod enc Try.prog W 0 sp held fuel 62 cs = some x) :
    ∃ e : Ed, Fits e ∧ cs = [.int .i64 e.fr, .int .i64 e.to, .bool e.free, .int .u64 e.a, .int .u64 e.b, .int .u64 e.c, .int .u64 e.d] := by
  obtain ⟨xs, n, hfu, hx, hl, hlen, hf⟩ := DataW.trod_struct Try.underlying62 h
  have c62 : Try.prog.cellsOf 62 = 7 := by kernel_rfl
  have c60 : Try.prog.cellsOf 60 = 4 := by kernel_rfl
  have c3 : Try.prog.cellsOf 3 = 1 := by kernel_rfl
  have c4 : Try.prog.cellsOf 4 = 1 := by kernel_rfl
  rw [c62] at hl
  match cs, hl with
  | [v0, v1, v2, v3, v4, v5, v6], _ =>
    match xs, hlen with
    | [y0, y1, y2, y3], _ =>
      have f0 : DataW.trod enc Try.prog W 0 sp held n 3 (List.take (Try.prog.cellsOf 3) (List.drop 0 [v0, v1, v2, v3, v4, v5, v6])) = some y0 := hf 0 _ rfl
      rw [c3] at f0
      have f1 : DataW.trod enc Try.prog W 0 sp held n 3 (List.take (Try.prog.cellsOf 3) (List.drop 1 [v0, v1, v2, v3, v4, v5, v6])) = some y1 := hf 1 _ rfl
      rw [c3] at f1
      have f2 : DataW.trod enc Try.prog W 0 sp held n 4 (List.take (Try.prog.cellsOf 4) (List.drop 2 [v0, v1, v2, v3, v4, v5, v6])) = some y2 := hf 2 _ rfl
      rw [c4] at f2
      have f3 : DataW.trod enc Try.prog W 0 sp held n 60 (List.take (Try.prog.cellsOf 60) (List.drop 3 [v0, v1, v2, v3, v4, v5, v6])) = some y3 := hf 3 _ rfl
      rw [c60] at f3
      obtain ⟨k, e0, _, w0⟩ := DataW.trod_int Try.underlying3 f0
      obtain ⟨t, e1, _, w1⟩ := DataW.trod_int Try.underlying3 f1
      obtain ⟨b, e2, _⟩ := DataW.trod_bool Try.underlying4 f2
      obtain ⟨a, b', c, d, hq, e3⟩ := row60 (show DataW.trod enc Try.prog W 0 sp held n 60 [v3, v4, v5, v6] = some y3 from f3)
      simp at e0 e1 e2 e3
      exact ⟨⟨k, t, b, a, b', c, d⟩, hq, by rw [e0, e1, e2, e3.1, e3.2.1, e3.2.2.1, e3.2.2.2]⟩
set_option maxRecDepth 100000 in
theorem edges_of {fuel : Nat} {cs : List Value} {x : DataW H × List MemPlace} (h : DataW.trod enc Try.prog W 0 sp held fuel 22 cs = some x) :
    ∃ (o : Option Addr) (cap : Nat) (l : List Ed), cs = [.slice o l.length cap] ∧ Eds W o cap l ∧ ∀ e ∈ l, Fits e := by
  have c62 : Try.prog.cellsOf 62 = 7 := by kernel_rfl
  rcases Deep.open_slice Try.underlying22 h with ⟨rfl, _⟩ | ⟨a, len, cap, m, n, D, Pl, rfl, hb, hl, hm, hmm, _, hV⟩
  · exact ⟨none, 0, [], rfl, ⟨Nat.le_refl _, by omega, fun i hi => by simp at hi⟩, by simp⟩
  · have hlm : len ≤ m := by rw [hmm]; split <;> omega
    rw [c62] at hV
    have each : ∀ i, i < len → ∃ e : Ed, Fits e ∧ W.cells? 0 (a.add (i * 7)) 7 = some [.int .i64 e.fr, .int .i64 e.to, .bool e.free, .int .u64 e.a, .int .u64 e.b, .int .u64 e.c, .int .u64 e.d] := fun i hi => by
      obtain ⟨cs', h1, h2⟩ := hV i (by omega)
      obtain ⟨e, he, rfl⟩ := row62 h2
      exact ⟨e, he, h1⟩
    letI : Inhabited Ed := ⟨⟨0, 0, false, 0, 0, 0, 0⟩⟩
    obtain ⟨f, hf⟩ := Deep.choose_lt each
    have hln : ((List.range len).map f).length = len := by simp
    unfold maxLen at hm
    refine ⟨some a, cap, (List.range len).map f, by rw [hln], ⟨by rw [hln]; exact hl, hm, fun i hi => ?_⟩, fun e he => ?_⟩
    · rw [hln] at hi
      obtain ⟨b, off, spot⟩ := a
      obtain ⟨_, hlen', hcell⟩ := World.cells?_some (hf i hi).2
      obtain ⟨_, hlen0, hcell0⟩ := World.cells?_some (hf 0 (by omega)).2
      have z0 := hcell0 0 (by omega)
      simp only [Nat.zero_mul] at z0
      have hspot : spot = none := by
        have := World.cell?_spot z0
        simpa [Addr.add] using this
      subst hspot
      have hadd : ∀ j, (⟨b, off, none⟩ : Addr).add j = ⟨b, off + j, none⟩ := fun j => by simp [Addr.add]
      have e0 := hcell 0 (by omega)
      have e1 := hcell 1 (by omega)
      have e2 := hcell 2 (by omega)
      have e3 := hcell 3 (by omega)
      have e4 := hcell 4 (by omega)
      have e5 := hcell 5 (by omega)
      have e6 := hcell 6 (by omega)
      rw [Deep.add_add, hadd] at e0 e1 e2 e3 e4 e5 e6
      simp only [← Nat.add_assoc] at e0 e1 e2 e3 e4 e5 e6
      have hgi : ((List.range len).map f)[i]'(by simpa using hi) = f i := by simp
      refine ⟨b, off, rfl, block_lt_of_cell e0, ?_⟩
      rw [hgi]
      exact ⟨by simpa using e0, by simpa using e1, by simpa using e2, by simpa using e3, by simpa using e4, by simpa using e5, by simpa using e6⟩
    · obtain ⟨i, hi, rfl⟩ := List.mem_map.1 he
      exact (hf i (List.mem_range.1 hi)).1
set_option maxRecDepth 100000 in
theorem open24 {base : Nat} {v : Value} {d : DataW H} {p : List MemPlace} (hok : Value.okWide Try.prog W .any base 24 v) (h : DataW.Trod enc Try.prog W 0 (fun _ => true) true 24 v d p) :
    ∃ (x : Nfa) (o : Option Addr) (cap : Nat), v = nfaV x.n x.s x.e o x.edges.length cap ∧ (Eds W o cap x.edges ∧ ∀ e ∈ x.edges, Fits e) := by
  unfold Value.okWide at hok
  rw [Try.underlying24] at hok
  obtain ⟨cs, rfl, _⟩ := hok
  obtain ⟨fuel, hf⟩ := h
  obtain ⟨xs, n, hfu, hx, hl, hlen, hf⟩ := DataW.trod_struct Try.underlying24 hf
  have c24 : Try.prog.cellsOf 24 = 4 := by kernel_rfl
  have c22 : Try.prog.cellsOf 22 = 1 := by kernel_rfl
  have c3 : Try.prog.cellsOf 3 = 1 := by kernel_rfl
  rw [c24] at hl
  obtain ⟨v0, v1, v2, v3, rfl⟩ : ∃ v0 v1 v2 v3, cs = #[v0, v1, v2, v3] := by
    have hs : cs.toList.length = 4 := by simpa [Value.cells] using hl
    match hc : cs.toList, hs with
    | [v0, v1, v2, v3], _ => exact ⟨v0, v1, v2, v3, Array.toList_inj.1 hc⟩
  match xs, hlen with
  | [y0, y1, y2, y3], _ =>
    have f0 : DataW.trod enc Try.prog W 0 _ _ n 3 (List.take (Try.prog.cellsOf 3) (List.drop 0 [v0, v1, v2, v3])) = some y0 := hf 0 _ rfl
    have f1 : DataW.trod enc Try.prog W 0 _ _ n 3 (List.take (Try.prog.cellsOf 3) (List.drop 1 [v0, v1, v2, v3])) = some y1 := hf 1 _ rfl
    have f2 : DataW.trod enc Try.prog W 0 _ _ n 3 (List.take (Try.prog.cellsOf 3) (List.drop 2 [v0, v1, v2, v3])) = some y2 := hf 2 _ rfl
    have f3 : DataW.trod enc Try.prog W 0 _ _ n 22 (List.take (Try.prog.cellsOf 22) (List.drop 3 [v0, v1, v2, v3])) = some y3 := hf 3 _ rfl
    rw [c3] at f0 f1 f2
    rw [c22] at f3
    obtain ⟨k0, e0, _, _⟩ := DataW.trod_int Try.underlying3 f0
    obtain ⟨k1, e1, _, _⟩ := DataW.trod_int Try.underlying3 f1
    obtain ⟨k2, e2, _, _⟩ := DataW.trod_int Try.underlying3 f2
    obtain ⟨o, cap, l, e3, hE, hF⟩ := edges_of f3
    simp at e0 e1 e2 e3
    exact ⟨⟨k0, k1, k2, l⟩, o, cap, by rw [e0, e1, e2, e3], hE, hF⟩
end
set_option maxHeartbeats 1000000 in
theorem few_any (n s e : Int) (o : Option Addr) (m cap : Nat) (w : World) (hc : m ≤ cap) (ht : cap ≤ 9223372036854775807) : Calls Try.prog 13 #[nfaV n s e o m cap] w fun e w' => e = .returned (.bool (decide (n ≤ 60) && decide ((m : Int) ≤ 200))) ∧ Below w.heap.size w w' := by
  by_cases h1 : n ≤ 60
  · have f1 : decide (n ≤ 60) = true := decide_eq_true h1
    rw [f1, Bool.true_and]
    clear h1
    go_enter Try.func13, Try.ntmps13
    go_wp2
    go_ret
    exact ⟨rfl, below_alloc _ _⟩
  · have f1 : decide (n ≤ 60) = false := decide_eq_false h1
    rw [f1, Bool.false_and]
    clear h1
    go_enter Try.func13, Try.ntmps13
    go_wp2
    go_ret
    exact ⟨rfl, below_alloc _ _⟩
end Go.Proofs.Ythknhbmibmndoaa.nf
