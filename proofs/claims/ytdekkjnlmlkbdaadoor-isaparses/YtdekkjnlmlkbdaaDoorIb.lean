/-
  The tables of this program (isa.forms, isa.kinds) as they are laid, cell by cell; instructions as values; contracts of isa.fields and of the document's Fields, Value, Most, With.
-/
import Derived.Test.YtdekkjnlmlkbdaaDoorIa
import Derived.Test.YtdekkjnlmlkbdaaDoorRows
import Derived.Lib.LaidTab
import Derived.WalkKit
import Derived.ProofKit
import Derived.OpenShut
import Derived.Laws.BytesArg
import Derived.Lib.Builder
import Derived.Below
import Derived.BigQuiet
namespace Go.Proofs.YtdekkjnlmlkbdaaDoor.is
open Go.ChangeShapes Go.WideShapes Go.ChangeAt Go.RowKit
set_option linter.unusedVariables false

def ba (l : List UInt8) : ByteArray := ⟨l.toArray⟩
theorem ba_eq (s : ByteArray) : s = ba s.data.toList := by cases s; simp [ba]

structure Tabs (w : World) : Prop where
  kd : ∀ op, op < 18 → ∀ f, f < 4 → w.cell? ⟨0, op * 5 + 1 + f, none⟩ = some (.int .i64 (kd op f : Nat))
  wrd : ∀ op, op < 18 → w.cell? ⟨0, op * 5, none⟩ = some (.string (ba (wrd op)))
  most : ∀ k, k < 6 → w.cell? ⟨1, k * 2 + 1, none⟩ = some (.int .i64 (most k : Nat))
  sgn : ∀ k, k < 6 → w.cell? ⟨1, k * 2, none⟩ = some (.string (ba (sgn k)))
  size : 2 ≤ w.heap.size

theorem Tabs.later {w w' : World} (h : Tabs w) (b : Below w.heap.size w w') : Tabs w' := by
  have hs := h.size
  have e : ∀ g i, g < 2 → w'.cell? ⟨g, i, none⟩ = w.cell? ⟨g, i, none⟩ := fun g i hg => by
    simp only [World.cell?, b.block g (by omega)]
  exact ⟨fun op ho f hf => by rw [e _ _ (by omega)]; exact h.kd op ho f hf, fun op ho => by rw [e _ _ (by omega)]; exact h.wrd op ho, fun k hk => by rw [e _ _ (by omega)]; exact h.most k hk, fun k hk => by rw [e _ _ (by omega)]; exact h.sgn k hk, by have := b.size; omega⟩

def rowD (r : Nat) : DataW Unit := .agg [.lit (.string (wrd r)), Lib.tabData .i64 ((kds.getD r []).map Int.ofNat)]
def kindD (r : Nat) : DataW Unit := .agg [.lit (.string (sgn r)), .lit (.int .i64 (most r : Nat))]
theorem forms_rows : (Rows.laid_fretsaw_isa_forms : DataW Unit) = .agg ((List.range 18).map rowD) := by kernel_rfl
theorem kinds_rows : (Rows.laid_fretsaw_isa_kinds : DataW Unit) = .agg ((List.range 6).map kindD) := by kernel_rfl

theorem laid_mem {w : World} : ∀ {l : List (String × DataW Unit)} {ps : List MemPlace}, DataW.LaidVars Tryd.prog w l ps → ∀ n d, (n, d) ∈ l →
    ∃ g t cs fuel p, Tryd.prog.globalNamed n = some g ∧ (Tryd.prog.globals[g]?).map (·.type) = some t ∧ w.var? Tryd.prog n = some cs ∧ DataW.trod (fun _ => ()) Tryd.prog w 0 (fun _ => true) false fuel t cs.toList = some (d, p)
  | [], _, _, n, d, h => by simp at h
  | (m, e) :: l, ps, hL, n, d, h => by
    obtain ⟨g, t, cs, fuel, p, q, h1, h2, h3, h4, h5, _⟩ := hL
    rcases List.mem_cons.1 h with h | h
    · cases h; exact ⟨g, t, cs, fuel, p, h1, h2, h3, h4⟩
    · exact laid_mem h5 n d h

theorem c40 : Tryd.prog.cellsOf 40 = 90 := by kernel_rfl
theorem c39 : Tryd.prog.cellsOf 39 = 5 := by kernel_rfl
theorem c37 : Tryd.prog.cellsOf 37 = 4 := by kernel_rfl
theorem c41 : Tryd.prog.cellsOf 41 = 2 := by kernel_rfl
theorem c9 : Tryd.prog.cellsOf 9 = 1 := by kernel_rfl
theorem c3 : Tryd.prog.cellsOf 3 = 1 := by kernel_rfl
theorem s39 : ∃ f0 f1 : Field, Tryd.prog.underlying 39 = some (.struct #[f0, f1]) ∧ f0.offset = 0 ∧ f0.type = 9 ∧ f1.offset = 1 ∧ f1.type = 37 := ⟨_, _, Tryd.underlying39, rfl, rfl, rfl, rfl⟩
theorem s41 : ∃ f0 f1 : Field, Tryd.prog.underlying 41 = some (.struct #[f0, f1]) ∧ f0.offset = 0 ∧ f0.type = 9 ∧ f1.offset = 1 ∧ f1.type = 3 := ⟨_, _, Tryd.underlying41, rfl, rfl, rfl, rfl⟩

theorem forms_cells {w : World} {fuel : Nat} {cs : List Value} {p : List MemPlace} (h : DataW.trod (fun _ => ()) Tryd.prog w 0 (fun _ => true) false fuel 40 cs = some (Rows.laid_fretsaw_isa_forms, p)) (op : Nat) (ho : op < 18) :
    cs[op * 5]? = some (.string (ba (wrd op))) ∧ ∀ f, f < 4 → cs[op * 5 + 1 + f]? = some (.int .i64 (kd op f : Nat)) := by
  obtain ⟨xs, m, _, ex, _, hl, hel⟩ := DataW.trod_array Tryd.underlying40 h
  have e2 := congrArg Prod.fst ex
  rw [forms_rows] at e2
  have e3 : xs.map (·.1) = (List.range 18).map rowD := (DataW.agg.inj e2).symm
  have e4 : (xs[op]?).map (·.1) = some (rowD op) := by rw [← List.getElem?_map, e3]; simp [ho]
  obtain ⟨x, hx, e5⟩ := Option.map_eq_some_iff.1 e4
  have hE := hel op ho
  rw [c39, hx] at hE
  obtain ⟨f0, f1, hu, o0, t0, o1, t1⟩ := s39
  obtain ⟨y0, y1, n, rfl, _, h0, h1⟩ := trod_struct2 hu hE
  rw [o0, t0, c9] at h0
  rw [o1, t1, c37] at h1
  obtain ⟨r0, r1⟩ : y0.1 = .lit (.string (wrd op)) ∧ y1.1 = Lib.tabData .i64 ((kds.getD op []).map Int.ofNat) := by
    have := DataW.agg.inj e5
    simpa using this
  obtain ⟨s, e6, e7, _⟩ := DataW.trod_string Tryd.underlying9 h0
  have e8 : s = ba (wrd op) := by
    rw [e7] at r0
    have r2 : s.data.toList = wrd op := by simpa using r0
    rw [← r2]; exact ba_eq s
  have h1' : DataW.trod (fun _ => ()) Tryd.prog w 0 (fun _ => true) false n 37 ((((cs.drop (op * 5)).take 5).drop 1).take 4) = some (Lib.tabData .i64 ((kds.getD op []).map Int.ofNat), y1.2) := by rw [h1, ← r1]
  have e9 := Lib.cells_of_tab Tryd.underlying37 Tryd.underlying3 c3 c37 h1'
  refine ⟨?_, fun f hf => ?_⟩
  · have := congrArg (·[0]?) e6
    simpa [List.getElem?_take, List.getElem?_drop, e8] using this
  · have := congrArg (·[f]?) e9
    have hlen : f < (kds.getD op []).length := by
      have : ∀ x : Fin 18, (kds.getD x []).length = 4 := by decide
      have := this ⟨op, ho⟩
      simp only at this
      omega
    have h5 : ((((cs.drop (op * 5)).take 5).drop 1).take 4)[f]? = cs[op * 5 + 1 + f]? := by
      rw [List.getElem?_take_of_lt hf, List.getElem?_drop, List.getElem?_take_of_lt (by omega), List.getElem?_drop]
      congr 1
      omega
    rw [← h5, e9, List.getElem?_map, List.getElem?_map, List.getElem?_eq_getElem hlen]
    unfold kd
    rw [List.getD_eq_getElem?_getD (i := f), List.getElem?_eq_getElem hlen]
    rfl

theorem kinds_cells {w : World} {fuel : Nat} {cs : List Value} {p : List MemPlace} (h : DataW.trod (fun _ => ()) Tryd.prog w 0 (fun _ => true) false fuel 42 cs = some (Rows.laid_fretsaw_isa_kinds, p)) (k : Nat) (ho : k < 6) :
    cs[k * 2]? = some (.string (ba (sgn k))) ∧ cs[k * 2 + 1]? = some (.int .i64 (most k : Nat)) := by
  obtain ⟨xs, m, _, ex, _, hl, hel⟩ := DataW.trod_array Tryd.underlying42 h
  have e2 := congrArg Prod.fst ex
  rw [kinds_rows] at e2
  have e3 : xs.map (·.1) = (List.range 6).map kindD := (DataW.agg.inj e2).symm
  have e4 : (xs[k]?).map (·.1) = some (kindD k) := by rw [← List.getElem?_map, e3]; simp [ho]
  obtain ⟨x, hx, e5⟩ := Option.map_eq_some_iff.1 e4
  have hE := hel k ho
  rw [c41, hx] at hE
  obtain ⟨f0, f1, hu, o0, t0, o1, t1⟩ := s41
  obtain ⟨y0, y1, n, rfl, _, h0, h1⟩ := trod_struct2 hu hE
  rw [o0, t0, c9] at h0
  rw [o1, t1, c3] at h1
  obtain ⟨r0, r1⟩ : y0.1 = .lit (.string (sgn k)) ∧ y1.1 = .lit (.int .i64 (most k : Nat)) := by
    have := DataW.agg.inj e5
    simpa using this
  obtain ⟨s, e6, e7, _⟩ := DataW.trod_string Tryd.underlying9 h0
  have e8 : s = ba (sgn k) := by
    rw [e7] at r0
    have r2 : s.data.toList = sgn k := by simpa using r0
    rw [← r2]; exact ba_eq s
  obtain ⟨z, e9, e10, _⟩ := DataW.trod_int Tryd.underlying3 h1
  have e11 : z = (most k : Nat) := by rw [e10] at r1; simpa using r1
  refine ⟨?_, ?_⟩
  · have := congrArg (·[0]?) e6
    simpa [List.getElem?_take, List.getElem?_drop, e8] using this
  · have := congrArg (·[0]?) e9
    simpa [List.getElem?_take, List.getElem?_drop, e11] using this

theorem tabs_of {w : World} {l : List (String × DataW Unit)} (h : laidMet Tryd.prog l w) (h1 : ("fretsaw/isa.kinds", (Rows.laid_fretsaw_isa_kinds : DataW Unit)) ∈ l) (h2 : ("fretsaw/isa.forms", (Rows.laid_fretsaw_isa_forms : DataW Unit)) ∈ l) : Tabs w := by
  obtain ⟨ps, hL, _, _⟩ := h
  obtain ⟨g, t, cs, fuel, p, hg, ht, hv, hd⟩ := laid_mem hL _ _ h2
  obtain rfl := Option.some.inj ((show Tryd.prog.globalNamed "fretsaw/isa.forms" = some 0 by kernel_rfl).symm.trans hg)
  obtain rfl := Option.some.inj ((show (Tryd.prog.globals[0]?).map (·.type) = some 40 by kernel_rfl).symm.trans ht)
  obtain ⟨g', t', cs', fuel', p', hg', ht', hv', hd'⟩ := laid_mem hL _ _ h1
  obtain rfl := Option.some.inj ((show Tryd.prog.globalNamed "fretsaw/isa.kinds" = some 1 by kernel_rfl).symm.trans hg')
  obtain rfl := Option.some.inj ((show (Tryd.prog.globals[1]?).map (·.type) = some 42 by kernel_rfl).symm.trans ht')
  have f1 := fun i => World.var?_cell hg hv i
  have k1 := fun i => World.var?_cell hg' hv' i
  refine ⟨fun op ho f hf => ?_, fun op ho => ?_, fun k hk => ?_, fun k hk => ?_, ?_⟩
  · rw [f1, ← Array.getElem?_toList]; exact (forms_cells hd op ho).2 f hf
  · rw [f1, ← Array.getElem?_toList]; exact (forms_cells hd op ho).1
  · rw [k1, ← Array.getElem?_toList]; exact (kinds_cells hd' k hk).2
  · rw [k1, ← Array.getElem?_toList]; exact (kinds_cells hd' k hk).1
  · have e := k1 0
    rw [← Array.getElem?_toList, (kinds_cells hd' 0 (by omega)).1] at e
    by_cases hs : 2 ≤ w.heap.size
    · exact hs
    · exfalso
      have : w.heap[1]? = none := Array.getElem?_eq_none (by omega)
      simp [World.cell?, this] at e
end Go.Proofs.YtdekkjnlmlkbdaaDoor.is
