/-
  Texts put together: Contracts over this program: a text's copy (strings.Clone), the texts of the bytes (ofBytes). Contracts over this program: maps whose keys are texts; the texts of all ids (merge.Texts). Contracts over this program: merge.Right; the document's Texts (fretsawref13). Lists of merges and of ids that came in as arguments.
-/
import Derived.Test.YtmmlibehihknbaaM00
import Derived.Shelf.Pu.Clone
import Derived.Lib.ConvBytes
import Derived.Deep.OwnRows
import Derived.Deep.WholeRow
import Derived.Laws.BytesArg
import Derived.Maps.OwnSet
import Derived.Maps.OwnIn
import Derived.DeepKeys4
import Derived.MapViews
import Derived.Laws.IdiomArrays
import Derived.Deep.Slices
import Derived.Deep.SlicePairs
import Derived.SizedLaws
import Derived.ChangeOld
import Derived.Below
import Derived.OpenShut
namespace Go.Proofs.Ytmmlibehihknbaa.mg
open Go.ChangeShapes Go.WideShapes Go.ChangeAt Go.RowKit Go.Shelf
set_option linter.unusedVariables false
set_option maxRecDepth 100000

/-- the library's contract for a text's copy, laid at this program -/
def ren : Go.Shelf.Ren := ⟨fun | 25 => 78 | n => n, fun | 37 => 63 | 47 => 109 | n => n, fun | n => n⟩
theorem lays26 : Go.Proofs.LaysPu.n25 Try.prog ren := {
  mixed := by kernel_rfl
  f25 := Try.func78.trans (congrArg some (by kernel_rfl))
  t0 := Try.underlying0
  a0 := Try.isAgg0
  z0 := Try.sizeOf0
  v0 := Try.zeroValue0
  i0 := by kernel_rfl
  t3 := Try.underlying3
  a3 := Try.isAgg3
  z3 := Try.sizeOf3
  v3 := Try.zeroValue3
  i3 := by kernel_rfl
  t4 := Try.underlying4
  a4 := Try.isAgg4
  z4 := Try.sizeOf4
  v4 := Try.zeroValue4
  i4 := by kernel_rfl
  t5 := Try.underlying5
  a5 := Try.isAgg5
  z5 := Try.sizeOf5
  v5 := Try.zeroValue5
  i5 := by kernel_rfl
  t9 := Try.underlying9
  a9 := Try.isAgg9
  z9 := Try.sizeOf9
  v9 := Try.zeroValue9
  i9 := by kernel_rfl
  t37 := Try.underlying63
  a37 := Try.isAgg63
  z37 := Try.sizeOf63
  v37 := Try.zeroValue63
  i37 := by kernel_rfl
  t47 := Try.underlying109
  a47 := Try.isAgg109
  z47 := Try.sizeOf109
  v47 := Try.zeroValue109
  i47 := by kernel_rfl }
attribute [local go_sem] Oper.semAt_some
theorem clone_any (s : ByteArray) (hlim : s.size ≤ 140737488351232) (w : World) : Calls Try.prog 73 #[.string s] w fun e w' => e = .returned (.string s) ∧ Below w.heap.size w w' := by
  have h39 := fun w => AnyPu.stringslite_Clone lays26 s w (by omega)
  go_enter Try.func73, Try.ntmps73
  go_wp2_with (go_at_call 78; refine (h39 _).mono ?_; rintro e w1 ⟨rfl, b1⟩)
  go_ret
  exact ⟨rfl, b1⟩
theorem conv_one (w : World) (b : UInt8) : Sem.run Try.prog (convert 63 9 (.slice (some ⟨w.heap.size, 0, none⟩) 1 1)) (w.alloc (.cells #[.int .u8 (b.toNat : Int)] 5)) = .ok (.string ⟨#[b]⟩) (w.alloc (.cells #[.int .u8 (b.toNat : Int)] 5)) := by
  refine run_convert_bytes_back _ 63 9 5 ⟨w.heap.size, 0, none⟩ 1 [b] Try.underlying63 Try.underlying5 Try.underlying9 fun j hj => ?_
  match j, hj with
  | 0, _ => simp [Addr.add]
  | (j + 1), hj => simp at hj
theorem conv_byte (w : World) (i : Nat) (h : i < 256) : Sem.run Try.prog (convert 63 9 (.slice (some ⟨w.heap.size, 0, none⟩) 1 1)) (w.alloc (.cells #[.int .u8 (i : Int)] 5)) = .ok (.string (oneB i)) (w.alloc (.cells #[.int .u8 (i : Int)] 5)) := by
  have := conv_one w (UInt8.ofNat i)
  have e : ((UInt8.ofNat i).toNat : Int) = (i : Int) := by
    rw [UInt8.toNat_ofNat', Nat.mod_eq_of_lt h]
  rw [e] at this
  exact this

/-- a row of texts that is written -/
def scells (l : List ByteArray) : Array Value := (l.map Value.string).toArray
def SRow (w : World) (g : Nat) (l : List ByteArray) : Prop := w.heap[g]? = some (.cells (scells l) 9 (0, 0))
theorem info9 : (Try.prog.info? 9).map (fun i => (i.zero, i.size, i.bytes)) = some (some (.string ⟨#[]⟩), 1, 16) := by kernel_rfl
section
variable {w w' : World} {g : Nat} {l : List ByteArray}
theorem SRow.lt (h : SRow w g l) : g < w.heap.size := (Array.getElem?_eq_some_iff.1 h).1
theorem SRow.later (h : SRow w g l) (b : Below w.heap.size w w') : SRow w' g l := (b.block g h.lt).trans h
theorem SRow.cell (h : SRow w g l) (i : Nat) (hi : i < l.length) : w.cell? ⟨g, i, none⟩ = some (.string l[i]) := by
  rw [Lib.cell_of_heap h]
  simp [scells, hi]
theorem SRow.fz (h : SRow w g l) (i : Nat) : w.frozen? ⟨g, i, none⟩ = false := Lib.frozen_of_heap h i
theorem set_heap (w : World) (g : Nat) (cs : Array Value) (t : TypeId) (i : Nat) (v : Value) (h : w.heap[g]? = some (.cells cs t (0, 0))) : (w.setCell ⟨g, i, none⟩ v).heap[g]? = some (.cells (cs.setIfInBounds i v) t (0, 0)) := by
  simp [World.setCell, Array.getElem?_modify, h]
theorem SRow.put (h : SRow w g l) (i : Nat) (x : ByteArray) : SRow (w.setCell ⟨g, i, none⟩ (.string x)) g (l.set i x) := by
  unfold SRow
  rw [set_heap w g _ _ i _ h]
  congr 2
  simp [scells]
end
theorem scells_made (n : Nat) : madeCells #[.string ⟨#[]⟩] n = scells (List.replicate n ⟨#[]⟩) := by
  apply Array.toList_inj.1
  rw [toList_madeCells_one]
  simp [scells]
theorem make_texts (n m : Nat) (hn : n ≤ 1000000) (hm : m ≤ n) (W : World) : (Instr.makeSlice 30 (.int .i64 (m : Int)) (.int .i64 (n : Int))).run Try.prog W = .ok (.slice (some ⟨W.heap.size, 0, none⟩) m n) (W.alloc (.cells (scells (List.replicate n ⟨#[]⟩)) 9)) := by
  obtain ⟨i0, hi, hz0, hz1, hz2⟩ := info_parts info9
  have hr := run_make (P := Try.prog) W 30 9 i0 _ Try.underlying30 hi hz0 .i64 .i64 m n (by omega) (by omega) (by rw [hz2]; omega) (by omega)
  simp only [Int.toNat_natCast, hz1, Nat.mul_one] at hr
  rw [hr]
  congr 3
  rw [← scells_made]
  rfl
/-- the first texts are there -/
def part (n i : Nat) : List ByteArray := bytesT i ++ List.replicate (n - i) ⟨#[]⟩
theorem part_len (n i : Nat) (h : i ≤ n) : (part n i).length = n := by simp [part, bytesT_len]; omega
theorem part_set (n i : Nat) (h : i < n) : (part n i).set i (oneB i) = part n (i + 1) := by
  unfold part
  rw [bytesT_succ, List.set_append_right _ _ (by rw [bytesT_len]; exact Nat.le_refl _), bytesT_len, Nat.sub_self, show n - i = (n - (i + 1)) + 1 by omega, List.replicate_succ, List.set_cons_zero, List.append_assoc]
  rfl
theorem SRow.own {w : World} {B g n : Nat} (h : SRow w g (part n 256)) (hB : B ≤ g) (hn : 256 ≤ n) (hm : n ≤ 1000000) : w.ownsRow B 9 1 (.slice (some ⟨g, 0, none⟩) 256 n) 256 ((bytesT 256).map Value.string) := by
  refine ⟨by rw [List.length_map, bytesT_len], .inr ⟨g, n, _, rfl, hB, h, hn, by unfold maxLen; omega, ?_, ?_⟩⟩
  · simp [scells, part_len n 256 hn]
  · simp only [scells, part, List.map_append]
    rw [List.take_left' (by rw [List.length_map, bytesT_len])]

set_option maxHeartbeats 2000000 in
set_option maxRecDepth 100000 in
theorem ofBytes_any (n : Nat) (hn : n ≤ 1024) (w : World) : Calls Try.prog 102 #[.int .i64 (n : Int)] w fun e w' => ∃ v, e = .returned v ∧ w'.ownsRow w.heap.size 9 1 v 256 ((bytesT 256).map Value.string) ∧ Below w.heap.size w w' := by
  have hmk : ∀ W, (Instr.makeSlice 30 (.int .i64 256) (.int .i64 (256 + (n : Int)))).run Try.prog W = .ok (.slice (some ⟨W.heap.size, 0, none⟩) 256 (256 + n)) (W.alloc (.cells (scells (part (256 + n) 0)) 9)) := fun W => by
    have := make_texts (256 + n) 256 (by omega) (by omega) W
    rw [show ((256 + n : Nat) : Int) = 256 + (n : Int) by omega] at this
    exact this
  have hS : SRow (w.alloc (.cells (scells (part (256 + n) 0)) 9)) w.heap.size (part (256 + n) 0) := heap_alloc_new w _
  have hB0 := below_alloc w (.cells (scells (part (256 + n) 0)) 9)
  have hcl := clone_any
  go_enter Try.func102, Try.ntmps102
  go_wp2_with (fail)
  clear hmk
  generalize w.alloc (.cells (scells (part (256 + n) 0)) 9) = w1 at *
  go_loopw [10] (fun y wr => ∃ i : Nat, y = .int .i64 i ∧ i ≤ 256 ∧ SRow wr w.heap.size (part (256 + n) i) ∧ Below w.heap.size w wr) (fun y _ => 256 - (intOf y).toNat)
  case atStart => exact ⟨0, rfl, by omega, hS, hB0⟩
  case round =>
    obtain ⟨i, rfl, hil, hS1, hB⟩ := hrel
    by_cases hend : i < 256
    · have hcv := conv_byte wr i hend
      have hcl2 := hcl (oneB i) (by rw [oneB_size]; omega)
      have hS2 := hS1.later (below_alloc wr (.cells #[.int .u8 (i : Int)] 5))
      have hB2 := hB.alloc hB.size (.cells #[.int .u8 (i : Int)] 5)
      clear hcl hS hB0
      go_wp2_with (go_at_call 73; refine (hcl2 _).mono ?_; rintro e w2 ⟨rfl, b2⟩; have hS3 := hS2.later b2; have hc3 := hS3.cell i (by rw [part_len _ _ (by omega)]; omega); have hf3 := hS3.fz i)
      go_roundw
      case rel => exact ⟨i + 1, by go_num, by omega, by rw [← part_set _ _ (by omega)]; exact hS3.put i _, Below.setCell (p := ⟨w.heap.size, i, none⟩) (hB2.trans (b2.mono hB2.size)) (Nat.le_refl w.heap.size) _⟩
      case measure => simp [intOf]; omega
    · obtain rfl : i = 256 := by omega
      have HS := (show Hid _ from hS1.own (Nat.le_refl _) (by omega) (by omega))
      clear hS1 hS
      go_wp2_with (fail)
      go_ret
      exact ⟨_, rfl, HS.out, hB⟩
end Go.Proofs.Ytmmlibehihknbaa.mg

namespace Go.Proofs.Ytmmlibehihknbaa.mg
open Go.ChangeShapes Go.WideShapes Go.ChangeAt Go.RowKit Go.Shelf Go.Maps
set_option linter.unusedVariables false

theorem law9 : Keyed Try.prog 9 := string_keyed Try.underlying9
theorem zero3 (w : World) : (zeroValue 3).run Try.prog w = .ok (.int .i64 0) w := by kernel_rfl
def OkT (t : ByteArray) : Prop := t.size ≤ 100000000
def kt (t : ByteArray) : Lit := .string t.data.toList
theorem key9 (t : ByteArray) (h : OkT t) : keyOf Try.prog 9 (.string t) = some (kt t) := Go.WideMaps.keyOf_string_mk (P := Try.prog) Try.underlying9 (by unfold OkT at h; unfold maxLen; omega)
theorem kt_inj {s t : ByteArray} (h : kt s = kt t) : s = t := by
  apply ByteArray.ext
  exact Array.toList_inj.1 (Lit.string.inj h)
theorem map_keep {W W' : World} {K : Nat} {m n : Nat} {D : DataW Unit} (hm : W.ownsMap Try.prog K (plainElem (H := Unit) Try.prog 3) m n D) (e : W'.heap[m]? = W.heap[m]?) : W'.ownsMap Try.prog K (plainElem (H := Unit) Try.prog 3) m n D := by
  obtain ⟨es, clock, hb, hr⟩ := hm
  exact ⟨es, clock, e.trans hb, hr⟩
theorem look168 {W : World} {m n : Nat} {D : DataW Unit} (hown : W.ownsMap Try.prog 9 (plainElem (H := Unit) Try.prog 3) m n D) (t : ByteArray) (ht : OkT t) :
    ∃ c : Int, (Instr.lookup 168 (.map (some m)) (.string t) true).run Try.prog W = .ok (.tuple #[.int .i64 c, .bool (Maps.has D (kt t))]) W := by
  obtain ⟨v, ps, hrun, hv⟩ := hown.look_ok law9 Try.underlying168 (zero3 W) (plainElem_int Try.underlying3 (by decide)) (key9 t ht)
  obtain ⟨c, rfl, hc, hwc⟩ := plainElem_int_inv Try.underlying3 hv
  exact ⟨c, hrun⟩
theorem make168 (n : Int) (w : World) : (Instr.makeMap 168 (some (.int .i64 n))).run Try.prog w = .ok (.map (some w.heap.size)) (w.alloc (.map #[] 0)) := by kernel_rfl

def HasT (D : DataW Unit) (ts : List ByteArray) : Prop := ∀ t, Maps.has D (kt t) = true ↔ t ∈ ts
theorem HasT.put {D : DataW Unit} {ts : List ByteArray} (h : HasT D ts) (hT : Tidy D) (t : ByteArray) (v : DataW Unit) : HasT (D.put (kt t) v) (ts ++ [t]) := by
  intro x
  by_cases e : x = t
  · subst e
    rw [has_put_same hT.isMap (show WideAt.IsKeyLit (kt x) from trivial)]
    simp
  · rw [has_put_other (fun e2 => e (kt_inj e2)), h x]
    simp [e]
/-- how far the texts are told -/
structure TI (w : World) (mb : Nat) (l : List Mg) (i : Nat) (tv : Value) (ts : List ByteArray) (D : DataW Unit) (W : World) : Prop where
  own : W.ownsRow w.heap.size 9 1 tv ts.length (ts.map Value.string)
  map : W.ownsMap Try.prog 9 (plainElem (H := Unit) Try.prog 3) mb i D
  mb : w.heap.size ≤ mb
  fine : Fine (l.take i) ts
  go : run 256 (bytesT 256) l = run 256 ts (l.drop i)
  has : HasT D (ts.drop 256)
  below : Below w.heap.size w W
section
variable {w W W' : World} {mb i : Nat} {l : List Mg} {tv : Value} {ts : List ByteArray} {D : DataW Unit}
theorem TI.mlt (h : TI w mb l i tv ts D W) : mb < W.heap.size := by
  obtain ⟨es, c, hb, _⟩ := h.map
  exact (Array.getElem?_eq_some_iff.1 hb).1
theorem TI.later (h : TI w mb l i tv ts D W) (b : Below W.heap.size W W') : TI w mb l i tv ts D W' :=
  ⟨ow.later h.own b, map_keep h.map (b.block mb h.mlt), h.mb, h.fine, h.go, h.has, h.below.trans (b.mono h.below.size)⟩
theorem TI.ne (h : TI w mb l i tv ts D W) : tv.ownBlock ≠ some mb := fun e => by
  obtain ⟨es, c, hb, _⟩ := h.map
  exact ow.kind h.own hb rfl e.symm
theorem TI.bad (h : TI w mb l i tv ts D W) (hl : l.length ≤ 1024) (hi : i < l.length) (hn : ¬ Ok 256 ts l[i]) : errOf l = 130 ∧ textsOf l = [] := by
  have e : run 256 (bytesT 256) l = none := by
    rw [h.go, List.drop_eq_getElem_cons hi, run, if_neg hn]
  unfold errOf textsOf
  simp only [if_neg (show ¬ 1024 < l.length by omega), e]
  exact ⟨rfl, rfl⟩
theorem TI.done (h : TI w mb l i tv ts D W) (hl : l.length ≤ 1024) (hi : ¬ i < l.length) : errOf l = 0 ∧ textsOf l = ts := by
  have e : run 256 (bytesT 256) l = some ts := by
    rw [h.go, List.drop_eq_nil_of_le (by omega), run]
  unfold errOf textsOf
  simp only [if_neg (show ¬ 1024 < l.length by omega), e]
  exact ⟨rfl, rfl⟩
theorem TI.step (h : TI w mb l i tv ts D W) (hi : i < l.length) (hk : Ok 256 ts l[i]) {tv' : Value} {D' : DataW Unit} (ho : W'.ownsRow w.heap.size 9 1 tv' (ts.length + 1) (ts.map Value.string ++ [.string (txt ts l[i])]))
    (hm : W'.ownsMap Try.prog 9 (plainElem (H := Unit) Try.prog 3) mb (i + 1) D') (hh : HasT D' (ts.drop 256 ++ [txt ts l[i]])) (hb : Below w.heap.size w W') : TI w mb l (i + 1) tv' (ts ++ [txt ts l[i]]) D' W' := by
  refine ⟨?_, hm, h.mb, ?_, ?_, ?_, hb⟩
  · rw [List.length_append, List.map_append]
    exact ho
  · rw [List.take_add_one, List.getElem?_eq_getElem hi]
    exact h.fine.push hk
  · rw [h.go, List.drop_eq_getElem_cons hi, run, if_pos hk]
  · rw [List.drop_append_of_le_length (by have := h.fine.len; omega)]
    exact hh
end
theorem TI.start {w W : World} {mb i : Nat} {l : List Mg} {tv : Value} {ts : List ByteArray} {D : DataW Unit} (h : TI w mb l i tv ts D W) (hi : i ≤ l.length) : ∃ (i' : Nat) (ts : List ByteArray) (D : DataW Unit) (tg : Option Addr) (tc : Nat), Value.int .i64 (i : Int) = .int .i64 (i' : Int) ∧ tv = .slice tg ts.length tc ∧ i' ≤ l.length ∧ ts.length ≤ tc ∧ tc ≤ 9223372036854775807 ∧ Hid (TI w mb l i' (.slice tg ts.length tc) ts D W) := by
  obtain ⟨tg, tc, e, h1, h2⟩ := ow.form h.own
  subst e
  exact ⟨i, ts, D, tg, tc, rfl, rfl, hi, h1, h2, h⟩
theorem txt_at {ts : List ByteArray} {x y : Nat} (hx : x < ts.length) (hy : y < ts.length) : txt ts ((x : Int), (y : Int)) = ts[x] ++ ts[y] := by
  unfold txt atI
  rw [List.getD_eq_getElem?_getD, List.getD_eq_getElem?_getD]
  simp [hx, hy]
def TextsOut (l : List Mg) (w : World) (e : Ending) (w' : World) : Prop := ∃ v', e = .returned (.tuple #[v', .int .i64 (errOf l : Int)]) ∧ w'.ownsRow w.heap.size 9 1 v' (textsOf l).length ((textsOf l).map Value.string) ∧ Below w.heap.size w w'
theorem TextsOut.bad {l : List Mg} {w w' : World} (h : errOf l = 130 ∧ textsOf l = []) (hb : Below w.heap.size w w') : TextsOut l w (.returned (.tuple #[.slice none 0 0, .int .i64 130])) w' := by
  refine ⟨.slice none 0 0, ?_, ?_, hb⟩
  · rw [h.1]; rfl
  · rw [h.2]; exact ⟨rfl, .inl ⟨rfl, rfl⟩⟩

set_option maxHeartbeats 2000000 in
set_option maxRecDepth 100000 in
theorem texts_any (l : List Mg) (v : Value) (w : World) (hv : Mgs w v l) : Calls Try.prog 95 #[v] w (TextsOut l w) := by
  obtain ⟨o, cap, rfl, hl, hm, hc⟩ := hv.form
  by_cases hlong : 1024 < l.length
  · have HO : Hid (TextsOut l w (.returned (.tuple #[.slice none 0 0, .int .i64 2])) w) := by
      refine ⟨.slice none 0 0, ?_, ?_, Below.refl _ _⟩
      · unfold errOf; rw [if_pos hlong]; rfl
      · unfold textsOf; rw [if_pos hlong]; exact ⟨rfl, .inl ⟨rfl, rfl⟩⟩
    clear hv hc
    go_enter Try.func95, Try.ntmps95
    go_wp2_with (fail)
    go_ret2
    exact HO.out
  · have hl2 : l.length ≤ 1024 := by omega
    have h21 := ofBytes_any l.length hl2
    have HC := (show Hid _ from hc)
    have hmm := make168
    clear hv hc
    go_enter Try.func95, Try.ntmps95
    go_wp2_with (go_at_call 102; refine (h21 _).mono ?_; rintro e w1 ⟨tv0, rfl, ho1, b1⟩)
    have T0 : TI w w1.heap.size l 0 tv0 (bytesT 256) (.map []) (w1.alloc (.map #[] 0)) := by
      refine ⟨?_, World.ownsMap_made _ _ _ _, b1.size, ?_, by rw [List.drop_zero], ?_, b1.alloc b1.size _⟩
      · rw [bytesT_len]; exact ow.later ho1 (below_alloc _ _)
      · rw [List.take_zero]; exact fine_nil
      · rw [List.drop_eq_nil_of_le (by rw [bytesT_len]; exact Nat.le_refl _)]
        intro t
        exact ⟨fun h => (by cases h), fun h => (by cases h)⟩
    clear hmm ho1 h21 b1
    generalize w1.alloc (.map #[] 0) = w2 at *
    generalize w1.heap.size = mb at *
    go_loopw [22, 4] (fun y x wr => ∃ (i : Nat) (ts : List ByteArray) (D : DataW Unit) (tg : Option Addr) (tc : Nat), y = .int .i64 i ∧ x = .slice tg ts.length tc ∧ i ≤ l.length ∧ ts.length ≤ tc ∧ tc ≤ 9223372036854775807 ∧ Hid (TI w mb l i (.slice tg ts.length tc) ts D wr)) (fun y _ _ => l.length - (intOf y).toNat)
    case atStart => exact T0.start (by omega)
    case round =>
      obtain ⟨i, ts, D, tg, tc, rfl, rfl, hil, tf1, tf2, HT⟩ := hrel
      by_cases hend : i < l.length
      · obtain ⟨g, off, rfl, hlt, c1, c2⟩ := HC.out i hend
        have hB := HT.out.below
        have k1 := (hB.cell (p := ⟨g, off + i * 2, none⟩) hlt).trans c1
        have k2 := (hB.cell (p := ⟨g, off + i * 2 + 1, none⟩) hlt).trans c2
        have hle := HT.out.fine.len
        rw [List.length_take] at hle
        have htl : ts.length ≤ 1280 := by omega
        clear hle
        have HBAD : Hid (¬ Ok 256 ts l[i] → errOf l = 130 ∧ textsOf l = []) := HT.out.bad hl2 hend
        have HSTEP := (show Hid (∀ W', Ok 256 ts l[i] → ∀ tv' D', _ → _ → _ → _ → TI w mb l (i + 1) tv' (ts ++ [txt ts l[i]]) D' W') from fun W' hk tv' D' h1 h2 h3 h4 => HT.out.step hend hk h1 h2 h3 h4)
        generalize l[i] = m at *
        obtain ⟨x, y⟩ := m
        simp only at k1 k2
        obtain ⟨wA, HWA⟩ : ∃ wA, Hid (wA = wr.alloc (.cells #[.int .i64 x, .int .i64 y] 70)) := ⟨_, rfl⟩
        have BA : Below wr.heap.size wr wA := by rw [HWA.out]; exact below_alloc _ _
        have hA : wA.heap[wr.heap.size]? = some (.cells #[.int .i64 x, .int .i64 y] 70 (0, 0)) := by rw [HWA.out]; exact heap_alloc_new wr _
        have a0 : wA.cell? ⟨wr.heap.size, 0, none⟩ = some (.int .i64 x) := by rw [Lib.cell_of_heap hA]; rfl
        have a1 : wA.cell? ⟨wr.heap.size, 1, none⟩ = some (.int .i64 y) := by rw [Lib.cell_of_heap hA]; rfl
        have HTA := (show Hid _ from HT.out.later BA)
        have HBB : Hid (Below w.heap.size w wA) := HTA.out.below
        clear c1 c2 HT hA
        go_wp2_with (fail)
        rw [← HWA.out]
        generalize wr.heap.size = ag at *
        clear HWA BA hB k1 k2
        have c1 := fun w => isId_any x ts.length w
        have c2 := fun w => isId_any y ts.length w
        by_cases hx : InR x ts.length
        · rw [decide_eq_true hx] at c1
          by_cases hy : InR y ts.length
          · rw [decide_eq_true hy] at c2
            obtain ⟨x1, rfl⟩ : ∃ x1 : Nat, x = (x1 : Int) := ⟨x.toNat, by have := hx.1; omega⟩
            obtain ⟨y1, rfl⟩ : ∃ y1 : Nat, y = (y1 : Int) := ⟨y.toNat, by have := hy.1; omega⟩
            have hx2 : x1 < ts.length := by have := hx.2; omega
            have hy2 : y1 < ts.length := by have := hy.2; omega
            obtain ⟨g1, cap1, e1, hg1, d1⟩ := ow.cell HTA.out.own x1 (by rw [List.length_map]; exact hx2)
            obtain ⟨g2, cap2, e2, hg2, d2⟩ := ow.cell HTA.out.own y1 (by rw [List.length_map]; exact hy2)
            obtain ⟨rfl, rfl⟩ : tg = some ⟨g1, 0, none⟩ ∧ tc = cap1 := by simpa using e1
            obtain ⟨rfl, rfl⟩ : g1 = g2 ∧ tc = cap2 := by simpa using e2
            rw [List.getElem_map] at d1 d2
            have HTX := (show Hid _ from txt_at hx2 hy2)
            have hs1 := (HTA.out.fine.size _ (List.getElem_mem hx2)).2
            have hs2 := (HTA.out.fine.size _ (List.getElem_mem hy2)).2
            have HBAD2 : Hid (64 < (ts[x1] ++ ts[y1]).size ∨ ts[x1] ++ ts[y1] ∈ ts.drop 256 → errOf l = 130 ∧ textsOf l = []) := fun h => HBAD.out (fun k => by
              have k3 := k.2.2
              rw [HTX.out] at k3
              rcases h with h | h
              · omega
              · exact k3.2 h)
            have HOK : Hid ((ts[x1] ++ ts[y1]).size ≤ 64 → ts[x1] ++ ts[y1] ∉ ts.drop 256 → Ok 256 ts ((x1 : Int), (y1 : Int))) := fun h1 h2 => ⟨hx, hy, by rw [HTX.out]; exact h1, by rw [HTX.out]; exact h2⟩
            have hokT : OkT (ts[x1] ++ ts[y1]) := by unfold OkT; rw [app_size]; omega
            have hsz : (ts[x1] ++ ts[y1]).size = ts[x1].size + ts[y1].size := app_size _ _
            rw [HTX.out] at HSTEP
            clear HTX hx hy HBAD e1 e2
            generalize ts[x1] = t1 at *
            generalize ts[y1] = t2 at *
            have hlk := fun n => look168 (W := wA.drewN n) (map_keep (W := wA) (W' := wA.drewN n) HTA.out.map rfl) (t1 ++ t2) hokT
            have hkey := key9 (t1 ++ t2) hokT
            have HHAS := (show Hid _ from HTA.out.has (t1 ++ t2))
            go_wp2_with (first | (go_at_call 103; with_reducible refine (c1 _).mono ?_; rintro e w' ⟨rfl, rfl⟩) | (go_at_call 103; with_reducible refine (c2 _).mono ?_; rintro e w' ⟨rfl, rfl⟩))
            clear c1 c2
            go_quiet (fail)
            obtain ⟨c, hl⟩ := hlk nq
            have HT2 := (show Hid _ from HTA.out.later (below_drewN (Below.refl _ _) nq))
            clear hlk HTA HBB a0 a1 d1 d2 hg1 hg2
            generalize w'.drewN nq = wB at *
            generalize t1 ++ t2 = t at *
            clear hsz hs1 hs2 HC T0
            have HBB : Hid (Below w.heap.size w wB) := HT2.out.below
            by_cases hin : t ∈ ts.drop 256
            · rw [HHAS.out.2 hin] at hl
              have HO := (show Hid _ from TextsOut.bad (HBAD2.out (.inr hin)) HBB.out)
              clear hin HBAD2 HOK HSTEP HT2 HHAS
              go_wp2_with (fail)
              go_ret2
              exact HO.out
            · rw [Bool.eq_false_iff.2 (fun h => hin (HHAS.out.1 h))] at hl
              by_cases hsz : 64 < t.size
              · have HO := (show Hid _ from TextsOut.bad (HBAD2.out (.inl hsz)) HBB.out)
                clear hin HBAD2 HOK HSTEP HT2 HHAS
                go_wp2_with (fail)
                go_ret2
                exact HO.out
              · have HOK2 := (show Hid _ from HOK.out (by omega) hin)
                have HOUT := (show Hid _ from fun W' => HSTEP.out W' HOK2.out)
                clear hin HBAD2 HOK HSTEP HHAS HOK2
                have hmp := HT2.out.map
                have HNE := (show Hid _ from HT2.out.ne)
                have hn64 : ¬ (64 : Int) < (t.size : Int) := by omega
                go_wp2_with (first | (at_mapUpdate; refine wpList_mapUpdate_own _ rfl _ _ _ 168 rfl 9 3 law9 Try.underlying168 _ mb i D rfl hmp (by unfold maxLen; omega) _ _ _ rfl rfl hkey _ [] (plainElem_int Try.underlying3 (WalkArith.wf_i64 (by omega))) ?_; intro w2 hD2 hg2; have HO2 := (show Hid _ from ow.later (ow.keep HT2.out.own (W' := w2) (fun g eg => hg2.block g (ow.lt HT2.out.own eg).2 (fun e => HNE.out (by rw [← Option.some.inj e]; exact eg)))) (below_alloc w2 (.cells #[.string t] 9))); have HN2 := (show Hid _ from ow.new1 w2 (.string t) 9); have hBw : w.heap.size ≤ (w2.alloc (.cells #[.string t] 9)).heap.size := Nat.le_trans HT2.out.below.size (Nat.le_trans hg2.size (below_alloc w2 _).size); clear hmp) | (at_builtin; refine ow.wpList_append (by rfl) (.tmp 67) (.tmp 69) 30 (by rfl) 9 (.string ⟨#[]⟩) 1 16 Try.underlying30 info9 (by rfl) (by decide) (by decide) w.heap.size (.slice (some ⟨g1, 0, none⟩) ts.length tc) ts.length (ts.map Value.string) w2.heap.size [.string t] (by rfl) (by rfl) (by exact HO2.out) (by rfl) (by exact HN2.out) (by exact ow.one1 _ rfl) (by omega) (by exact hBw) ?_; intro g' cap' w3 ho hgr hw3))
                have hmb := HT2.out.mb
                have hmlt : mb < w2.heap.size := Nat.lt_of_lt_of_le HT2.out.mlt hg2.size
                have B2 : Below w.heap.size w w2 := HT2.out.below.grown hg2 HT2.out.below.size (by intro k hk; cases hk; omega)
                have B3 := B2.alloc B2.size (.cells #[.string t] 9)
                have B4 : Below w.heap.size w w3 := B3.grown hgr B3.size (by intro k hk; exact (ow.lt HO2.out hk).1)
                have hD3 : w3.ownsMap Try.prog 9 (plainElem (H := Unit) Try.prog 3) mb (i + 1) (D.put (kt t) (.lit (.int .i64 (i : Nat)))) := map_keep hD2 ((hgr.block mb (Nat.lt_of_lt_of_le hmlt (below_alloc w2 _).size) (fun e => HNE.out e.symm)).trans ((below_alloc w2 _).block mb hmlt))
                have T := HOUT.out w3 _ _ ho hD3 (HT2.out.has.put (HT2.out.map.tidy law9) t _) B4
                go_roundw
                case rel => exact T.start (by omega)
                case measure => simp [intOf]; omega
          · rw [decide_eq_false hy] at c2
            have HO := (show Hid _ from TextsOut.bad (HBAD.out (fun h => hy h.2.1)) HBB.out)
            clear hx hy HBAD HSTEP
            go_wp2_with (first | (go_at_call 103; with_reducible refine (c1 _).mono ?_; rintro e w' ⟨rfl, rfl⟩) | (go_at_call 103; with_reducible refine (c2 _).mono ?_; rintro e w' ⟨rfl, rfl⟩))
            go_ret2
            exact HO.out
        · rw [decide_eq_false hx] at c1
          have HO := (show Hid _ from TextsOut.bad (HBAD.out (fun h => hx h.1)) HBB.out)
          clear hx HBAD HSTEP c2
          go_wp2_with (first | (go_at_call 103; refine (c1 _).mono ?_; rintro e w' ⟨rfl, rfl⟩))
          go_ret2
          exact HO.out
      · obtain ⟨e1, e2⟩ := HT.out.done hl2 hend
        have HO : Hid (TextsOut l w (.returned (.tuple #[.slice tg ts.length tc, .int .i64 0])) wr) := ⟨_, by rw [e1]; rfl, by rw [e2]; exact HT.out.own, HT.out.below⟩
        clear HT HC e1 e2
        go_wp2_with (fail)
        go_ret2
        exact HO.out
end Go.Proofs.Ytmmlibehihknbaa.mg

namespace Go.Proofs.Ytmmlibehihknbaa.mg
open Go.ChangeShapes Go.WideShapes Go.ChangeAt Go.RowKit Go.Shelf Go.Maps
set_option linter.unusedVariables false

theorem right_any (l : List Mg) (v : Value) (w : World) (hv : Mgs w v l) : Calls Try.prog 87 #[v] w fun e w' => e = .returned (.int .i64 (errOf l : Int)) ∧ Below w.heap.size w w' := by
  have h8 := texts_any l v w hv
  obtain ⟨o, cap, rfl, hl, hm, hc⟩ := hv.form
  clear hv hc
  go_enter Try.func87, Try.ntmps87
  go_wp2_with (go_at_call 95; refine h8.mono ?_; rintro e w1 ⟨v', rfl, h1, b1⟩)
  go_ret
  exact ⟨rfl, b1⟩

structure RI (w : World) (l : List Mg) (i : Nat) (tv : Value) (ts : List ByteArray) (W : World) : Prop where
  own : W.ownsRow w.heap.size 9 1 tv ts.length (ts.map Value.string)
  fine : Fine (l.take i) ts
  go : run 256 (bytesT 256) l = run 256 ts (l.drop i)
  below : Below w.heap.size w W
section
variable {w W W' : World} {i : Nat} {l : List Mg} {tv : Value} {ts : List ByteArray}
theorem RI.later (h : RI w l i tv ts W) (b : Below W.heap.size W W') : RI w l i tv ts W' :=
  ⟨ow.later h.own b, h.fine, h.go, h.below.trans (b.mono h.below.size)⟩
theorem RI.bad (h : RI w l i tv ts W) (hl : l.length ≤ 1024) (hi : i < l.length) (hn : ¬ Ok 256 ts l[i]) : errOf l = 130 ∧ textsOf l = [] := by
  have e : run 256 (bytesT 256) l = none := by
    rw [h.go, List.drop_eq_getElem_cons hi, run, if_neg hn]
  unfold errOf textsOf
  simp only [if_neg (show ¬ 1024 < l.length by omega), e]
  exact ⟨rfl, rfl⟩
theorem RI.done (h : RI w l i tv ts W) (hl : l.length ≤ 1024) (hi : ¬ i < l.length) : errOf l = 0 ∧ textsOf l = ts := by
  have e : run 256 (bytesT 256) l = some ts := by
    rw [h.go, List.drop_eq_nil_of_le (by omega), run]
  unfold errOf textsOf
  simp only [if_neg (show ¬ 1024 < l.length by omega), e]
  exact ⟨rfl, rfl⟩
theorem RI.step (h : RI w l i tv ts W) (hi : i < l.length) (hk : Ok 256 ts l[i]) {tv' : Value} (ho : W'.ownsRow w.heap.size 9 1 tv' (ts.length + 1) (ts.map Value.string ++ [.string (txt ts l[i])]))
    (hb : Below w.heap.size w W') : RI w l (i + 1) tv' (ts ++ [txt ts l[i]]) W' := by
  refine ⟨?_, ?_, ?_, hb⟩
  · rw [List.length_append, List.map_append]
    exact ho
  · rw [List.take_add_one, List.getElem?_eq_getElem hi]
    exact h.fine.push hk
  · rw [h.go, List.drop_eq_getElem_cons hi, run, if_pos hk]
theorem RI.start (h : RI w l i tv ts W) (hi : i ≤ l.length) : ∃ (i' : Nat) (ts : List ByteArray) (tg : Option Addr) (tc : Nat), Value.int .i64 (i : Int) = .int .i64 (i' : Int) ∧ tv = .slice tg ts.length tc ∧ i' ≤ l.length ∧ ts.length ≤ tc ∧ tc ≤ 9223372036854775807 ∧ Hid (RI w l i' (.slice tg ts.length tc) ts W) := by
  obtain ⟨tg, tc, e, h1, h2⟩ := ow.form h.own
  subst e
  exact ⟨i, ts, tg, tc, rfl, rfl, hi, h1, h2, h⟩
end
theorem own_start {w W : World} {n : Nat} {tv : Value} (h : W.ownsRow w.heap.size 9 1 tv n ((bytesT n).map Value.string)) (hb : Below w.heap.size w W) (hn : n ≤ 256) : ∃ (i : Nat) (tg : Option Addr) (tc : Nat), Value.int .i64 (n : Int) = .int .i64 (i : Int) ∧ tv = .slice tg i tc ∧ i ≤ 256 ∧ i ≤ tc ∧ tc ≤ 9223372036854775807 ∧ Hid (W.ownsRow w.heap.size 9 1 (.slice tg i tc) i ((bytesT i).map Value.string)) ∧ Below w.heap.size w W := by
  obtain ⟨tg, tc, e, h1, h2⟩ := ow.form h
  subst e
  exact ⟨n, tg, tc, rfl, rfl, hn, h1, h2, h, hb⟩
def Not (ts : List ByteArray) (t : ByteArray) (j : Nat) : Prop := ∀ k (h : k < ts.length), 256 ≤ k → k < j → ts[k] ≠ t
theorem Not.all {ts : List ByteArray} {t : ByteArray} (h : Not ts t ts.length) : t ∉ ts.drop 256 := by
  intro hm
  obtain ⟨k, hk, e⟩ := List.mem_iff_getElem.1 hm
  rw [List.getElem_drop] at e
  rw [List.length_drop] at hk
  exact h (256 + k) (by omega) (by omega) (by omega) e
theorem Not.no {ts : List ByteArray} {t : ByteArray} {j : Nat} (h : j < ts.length) (h2 : 256 ≤ j) (e : ts[j] = t) : t ∈ ts.drop 256 := by
  refine List.mem_iff_getElem.2 ⟨j - 256, by rw [List.length_drop]; omega, ?_⟩
  rw [List.getElem_drop]
  simp only [show 256 + (j - 256) = j by omega]
  exact e

set_option maxHeartbeats 4000000 in
set_option maxRecDepth 100000 in
theorem rtexts_any (l : List Mg) (v : Value) (w : World) (hv : Mgs w v l) : Calls Try.prog 20 #[v] w (TextsOut l w) := by
  obtain ⟨o, cap, rfl, hl, hm, hc⟩ := hv.form
  by_cases hlong : 1024 < l.length
  · have HO : Hid (TextsOut l w (.returned (.tuple #[.slice none 0 0, .int .i64 2])) w) := by
      refine ⟨.slice none 0 0, ?_, ?_, Below.refl _ _⟩
      · unfold errOf; rw [if_pos hlong]; rfl
      · unfold textsOf; rw [if_pos hlong]; exact ⟨rfl, .inl ⟨rfl, rfl⟩⟩
    clear hv hc
    go_enter Try.func20, Try.ntmps20
    go_wp2_with (fail)
    go_ret2
    exact HO.out
  · have hl2 : l.length ≤ 1024 := by omega
    have HC := (show Hid _ from hc)
    clear hv hc
    have O0 := World.ownsRow_made (e := 9) (size := 1) w #[] 0 (Nat.le_refl _) (Nat.zero_le _) rfl
    have BB0 := below_alloc w (.cells #[] 9)
    go_enter Try.func20, Try.ntmps20
    go_wp2_with (fail)
    generalize w.alloc (.cells #[] 9) = w1 at *
    go_loopw [5, 4] (fun y x wr => ∃ (i : Nat) (tg : Option Addr) (tc : Nat), y = .int .i64 i ∧ x = .slice tg i tc ∧ i ≤ 256 ∧ i ≤ tc ∧ tc ≤ 9223372036854775807 ∧ Hid (wr.ownsRow w.heap.size 9 1 (.slice tg i tc) i ((bytesT i).map Value.string)) ∧ Below w.heap.size w wr) (fun y _ _ => 256 - (intOf y).toNat)
    case atStart => exact own_start (n := 0) O0 BB0 (by omega)
    case round =>
      obtain ⟨b, tg, tc, rfl, rfl, hb, tf1, tf2, HO, hB⟩ := hrel
      by_cases hend : b < 256
      · have hcv := conv_byte wr b hend
        have B1 := below_alloc wr (.cells #[.int .u8 (b : Int)] 5)
        have HO1 := (show Hid _ from ow.later HO.out B1)
        have hB1 := hB.alloc hB.size (.cells #[.int .u8 (b : Int)] 5)
        generalize hw5 : wr.alloc (.cells #[.int .u8 (b : Int)] 5) = w5 at *
        have HO2 := (show Hid _ from ow.later HO1.out (below_alloc w5 (.cells #[.string (oneB b)] 9)))
        have HN2 := (show Hid _ from ow.new1 w5 (.string (oneB b)) 9)
        have hB2 := hB1.alloc hB1.size (.cells #[.string (oneB b)] 9)
        have hBw : w.heap.size ≤ (w5.alloc (.cells #[.string (oneB b)] 9)).heap.size := hB2.size
        clear HO O0
        go_wp2_with (at_builtin; refine ow.wpList_append (by rfl) (.tmp 18) (.tmp 23) 30 (by rfl) 9 (.string ⟨#[]⟩) 1 16 Try.underlying30 info9 (by rfl) (by decide) (by decide) w.heap.size (.slice tg b tc) b ((bytesT b).map Value.string) w5.heap.size [.string (oneB b)] (by rfl) (by rfl) (by exact HO2.out) (by rfl) (by exact HN2.out) (by exact ow.one1 _ rfl) (by omega) (by exact hBw) ?_; intro g' cap' w3 ho hgr hw3)
        have B4 : Below w.heap.size w w3 := hB2.grown hgr hB2.size (by intro k hk; exact (ow.lt HO2.out hk).1)
        have ho2 : w3.ownsRow w.heap.size 9 1 (.slice (some ⟨g', 0, none⟩) (b + 1) cap') (b + 1) ((bytesT (b + 1)).map Value.string) := by
          rw [bytesT_succ, List.map_append]; exact ho
        go_roundw
        case rel => exact own_start (n := b + 1) ho2 B4 (by omega)
        case measure => simp [intOf]; omega
      · have R0 : RI w l 0 (.slice tg b tc) (bytesT 256) wr := by
          have e : b = 256 := by omega
          subst e
          refine ⟨?_, ?_, by rw [List.drop_zero], hB⟩
          · rw [bytesT_len]; exact HO.out
          · rw [List.take_zero]; exact fine_nil
        clear HO O0 BB0 hB
        go_wp2_with (fail)
        generalize wr = wq at *
        go_loopw [27, 4] (fun y x wr => ∃ (i : Nat) (ts : List ByteArray) (tg : Option Addr) (tc : Nat), y = .int .i64 i ∧ x = .slice tg ts.length tc ∧ i ≤ l.length ∧ ts.length ≤ tc ∧ tc ≤ 9223372036854775807 ∧ Hid (RI w l i (.slice tg ts.length tc) ts wr)) (fun y _ _ => l.length - (intOf y).toNat)
        case atStart => exact R0.start (by omega)
        case round =>
          clear R0
          obtain ⟨i, ts, tg, tc, rfl, rfl, hil, tf1, tf2, HT⟩ := hrel
          by_cases hend : i < l.length
          · obtain ⟨g, off, rfl, hlt, c1, c2⟩ := HC.out i hend
            have hB := HT.out.below
            have k1 := (hB.cell (p := ⟨g, off + i * 2, none⟩) hlt).trans c1
            have k2 := (hB.cell (p := ⟨g, off + i * 2 + 1, none⟩) hlt).trans c2
            have hle := HT.out.fine.len
            rw [List.length_take, Nat.min_eq_left hil] at hle
            have HLE : Hid (ts.length = 256 + i) := hle
            have HBAD : Hid (¬ Ok 256 ts l[i] → errOf l = 130 ∧ textsOf l = []) := HT.out.bad hl2 hend
            have HSTEP := (show Hid (∀ W', Ok 256 ts l[i] → ∀ tv', _ → _ → RI w l (i + 1) tv' (ts ++ [txt ts l[i]]) W') from fun W' hk tv' h1 h4 => HT.out.step hend hk h1 h4)
            generalize l[i] = m at *
            obtain ⟨x, y⟩ := m
            simp only at k1 k2
            obtain ⟨wA, HWA⟩ : ∃ wA, Hid (wA = wr.alloc (.cells #[.int .i64 x, .int .i64 y] 70)) := ⟨_, rfl⟩
            have BA : Below wr.heap.size wr wA := by rw [HWA.out]; exact below_alloc _ _
            have hA : wA.heap[wr.heap.size]? = some (.cells #[.int .i64 x, .int .i64 y] 70 (0, 0)) := by rw [HWA.out]; exact heap_alloc_new wr _
            have a0 : wA.cell? ⟨wr.heap.size, 0, none⟩ = some (.int .i64 x) := by rw [Lib.cell_of_heap hA]; rfl
            have a1 : wA.cell? ⟨wr.heap.size, 1, none⟩ = some (.int .i64 y) := by rw [Lib.cell_of_heap hA]; rfl
            have HTA := (show Hid _ from HT.out.later BA)
            have HBA : Hid (Below w.heap.size w (wr.alloc (.cells #[.int .i64 x, .int .i64 y] 70))) := by rw [← HWA.out]; exact HTA.out.below
            clear c1 c2 HT hA HC
            by_cases hx0 : x < 0
            · have HO := (show Hid _ from TextsOut.bad (HBAD.out (fun h => by have := h.1.1; omega)) HBA.out)
              clear HBAD HSTEP hle HWA
              go_wp2_with (fail)
              go_ret2
              exact HO.out
            by_cases hx1 : 255 + (i : Int) < x
            · have HO := (show Hid _ from TextsOut.bad (HBAD.out (fun h => by have := h.1.2; omega)) HBA.out)
              clear HBAD HSTEP hle HWA
              go_wp2_with (fail)
              go_ret2
              exact HO.out
            by_cases hy0 : y < 0
            · have HO := (show Hid _ from TextsOut.bad (HBAD.out (fun h => by have := h.2.1.1; omega)) HBA.out)
              clear HBAD HSTEP hle HWA
              go_wp2_with (fail)
              go_ret2
              exact HO.out
            by_cases hy1 : 255 + (i : Int) < y
            · have HO := (show Hid _ from TextsOut.bad (HBAD.out (fun h => by have := h.2.1.2; omega)) HBA.out)
              clear HBAD HSTEP hle HWA
              go_wp2_with (fail)
              go_ret2
              exact HO.out
            have hx : InR x ts.length := by unfold InR; omega
            have hy : InR y ts.length := by unfold InR; omega
            have htl : ts.length ≤ 1280 := by omega
            obtain ⟨x1, rfl⟩ : ∃ x1 : Nat, x = (x1 : Int) := ⟨x.toNat, by omega⟩
            obtain ⟨y1, rfl⟩ : ∃ y1 : Nat, y = (y1 : Int) := ⟨y.toNat, by omega⟩
            have hx2 : x1 < ts.length := by omega
            have hy2 : y1 < ts.length := by omega
            clear hle
            go_wp2_with (fail)
            rw [← HWA.out]
            generalize wr.heap.size = ag at *
            clear HWA BA hB k1 k2 HBA
            obtain ⟨g1, cap1, e1, hg1, d1⟩ := ow.cell HTA.out.own x1 (by rw [List.length_map]; exact hx2)
            obtain ⟨g2, cap2, e2, hg2, d2⟩ := ow.cell HTA.out.own y1 (by rw [List.length_map]; exact hy2)
            obtain ⟨rfl, rfl⟩ : tg = some ⟨g1, 0, none⟩ ∧ tc = cap1 := by simpa using e1
            obtain ⟨rfl, rfl⟩ : g1 = g2 ∧ tc = cap2 := by simpa using e2
            rw [List.getElem_map] at d1 d2
            have HTX := (show Hid _ from txt_at hx2 hy2)
            have HBAD2 : Hid (64 < (ts[x1] ++ ts[y1]).size ∨ ts[x1] ++ ts[y1] ∈ ts.drop 256 → errOf l = 130 ∧ textsOf l = []) := fun h => HBAD.out (fun k => by
              have k3 := k.2.2
              rw [HTX.out] at k3
              rcases h with h | h
              · omega
              · exact k3.2 h)
            have HOK : Hid ((ts[x1] ++ ts[y1]).size ≤ 64 → ts[x1] ++ ts[y1] ∉ ts.drop 256 → Ok 256 ts ((x1 : Int), (y1 : Int))) := fun h1 h2 => ⟨hx, hy, by rw [HTX.out]; exact h1, by rw [HTX.out]; exact h2⟩
            have hs1 := (HTA.out.fine.size _ (List.getElem_mem hx2)).2
            have hs2 := (HTA.out.fine.size _ (List.getElem_mem hy2)).2
            rw [HTX.out] at HSTEP
            clear HTX hx hy HBAD e1 e2
            generalize ts[x1] = t1 at *
            generalize ts[y1] = t2 at *
            go_quiet (fail)
            have HT2 := (show Hid _ from HTA.out.later (below_drewN (Below.refl _ _) nq))
            clear HTA a0 a1 d1 d2 hg1 hg2
            generalize wA.drewN nq = wB at *
            generalize t1 ++ t2 = t at *
            have HBB : Hid (Below w.heap.size w wB) := HT2.out.below
            by_cases hsz : 64 < t.size
            · have HO := (show Hid _ from TextsOut.bad (HBAD2.out (.inl hsz)) HBB.out)
              clear HBAD2 HOK HSTEP HT2
              go_wp2_with (fail)
              go_ret2
              exact HO.out
            have hn64 : ¬ (64 : Int) < (t.size : Int) := by omega
            go_wp2_with (fail)
            clear HBB hs1 hs2
            go_loopw [9] (fun y wr => ∃ (j : Nat), y = .int .i64 j ∧ 256 ≤ j ∧ j ≤ ts.length ∧ Hid (Not ts t j) ∧ wr = wB) (fun y _ => ts.length - (intOf y).toNat)
            case atStart => exact ⟨256, rfl, Nat.le_refl _, by have := HLE.out; omega, fun k h h1 h2 => by omega, rfl⟩
            case round =>
              obtain ⟨j, rfl, hj0, hj, HN, rfl⟩ := hrel
              by_cases hje : j < ts.length
              · obtain ⟨g2, cap2, e2, hg2, d2⟩ := ow.cell HT2.out.own j (by rw [List.length_map]; exact hje)
                obtain ⟨rfl, rfl⟩ : g1 = g2 ∧ tc = cap2 := by simpa using e2
                rw [List.getElem_map] at d2
                have HNX := (show Hid (ts[j] ≠ t → Not ts t (j + 1)) from fun h k h1 h2 h3 => by
                  by_cases e : k = j
                  · subst e; exact h
                  · exact HN.out k h1 h2 (by omega))
                have HIN := (show Hid (ts[j] = t → t ∈ ts.drop 256) from fun e => Not.no hje hj0 e)
                generalize ts[j] = q at *
                clear e2 HN
                by_cases he : q = t
                · have hq : (q.toList == t.toList) = true := by rw [he]; simp
                  have HO := (show Hid _ from TextsOut.bad (HBAD2.out (.inr (HIN.out he))) HT2.out.below)
                  clear HBAD2 HOK HSTEP HT2 HNX HIN he
                  go_wp2_with (fail)
                  go_ret2
                  exact HO.out
                · have hq : (q.toList == t.toList) = false := by
                    rw [beq_eq_false_iff_ne, ByteArray.toList_eq, ByteArray.toList_eq]
                    exact fun e => he (ba_ext e)
                  have HN2 := (show Hid _ from HNX.out he)
                  clear he HNX HIN
                  go_wp2_with (fail)
                  go_roundw
                  case rel => exact ⟨j + 1, by go_num, by omega, by omega, HN2.out, trivial⟩
                  case measure => simp [intOf]; omega
              · obtain rfl : j = ts.length := by omega
                have HOK2 := (show Hid _ from HOK.out (by omega) HN.out.all)
                have HOUT := (show Hid _ from fun W' => HSTEP.out W' HOK2.out)
                have HO2 := (show Hid _ from ow.later HT2.out.own (below_alloc wr (.cells #[.string t] 9)))
                have HN2 := (show Hid _ from ow.new1 wr (.string t) 9)
                have B3 := HT2.out.below.alloc HT2.out.below.size (.cells #[.string t] 9)
                have hBw : w.heap.size ≤ (wr.alloc (.cells #[.string t] 9)).heap.size := B3.size
                clear HBAD2 HOK HSTEP HOK2 HN
                go_wp2_with (at_builtin; refine ow.wpList_append (by rfl) (.tmp 80) (.tmp 82) 30 (by rfl) 9 (.string ⟨#[]⟩) 1 16 Try.underlying30 info9 (by rfl) (by decide) (by decide) w.heap.size (.slice (some ⟨g1, 0, none⟩) ts.length tc) ts.length (ts.map Value.string) wr.heap.size [.string t] (by rfl) (by rfl) (by exact HO2.out) (by rfl) (by exact HN2.out) (by exact ow.one1 _ rfl) (by omega) (by exact hBw) ?_; intro g' cap' w3 ho hgr hw3)
                have B4 : Below w.heap.size w w3 := B3.grown hgr B3.size (by intro k hk; exact (ow.lt HO2.out hk).1)
                have T := HOUT.out w3 _ ho B4
                go_roundw
                case rel => exact T.start (by omega)
                case measure => simp [intOf]; omega
          · obtain ⟨e1, e2⟩ := HT.out.done hl2 hend
            have HO : Hid (TextsOut l w (.returned (.tuple #[.slice tg ts.length tc, .int .i64 0])) wr) := ⟨_, by rw [e1]; rfl, by rw [e2]; exact HT.out.own, HT.out.below⟩
            clear HT HC e1 e2
            go_wp2_with (fail)
            go_ret2
            exact HO.out
end Go.Proofs.Ytmmlibehihknbaa.mg

namespace Go.Proofs.Ytmmlibehihknbaa.mg
open Go.ChangeShapes Go.WideShapes Go.ChangeAt Go.RowKit
set_option linter.unusedVariables false
set_option maxRecDepth 100000

section
variable {H : Type} {enc : TypeId × Value → H} {W : World}
theorem row_of {sp : Nat → Bool} {held : Bool} {α : Type} [Inhabited α] (g : α → Value) {t e : TypeId} (ht : Try.prog.underlying t = some (.slice e)) (hc : Try.prog.cellsOf e = 1)
    (dec : ∀ n V y, DataW.trod enc Try.prog W 0 sp held n e [V] = some y → ∃ x, V = g x) {fuel : Nat} {cs : List Value} {x : DataW H × List MemPlace} (h : DataW.trod enc Try.prog W 0 sp held fuel t cs = some x) :
    ∃ (o : Option Addr) (cap : Nat) (l : List α), cs = [.slice o l.length cap] ∧ Row (In W) W g o cap l := by
  rcases Deep.open_slice1 ht hc h with ⟨rfl, _⟩ | ⟨a, len, cap, m, n, V, D, Pl, rfl, hb, hl, hm, hmm, _, hV⟩
  · exact ⟨none, 0, [], rfl, Nat.le_refl _, by omega, fun i hi => by simp at hi⟩
  · have hlm : len ≤ m := by rw [hmm]; split <;> omega
    obtain ⟨f, hf⟩ := Deep.choose_lt (α := α) (p := fun i x => V i = g x) (fun i (hi : i < len) => dec n (V i) _ (hV i (by omega)).2)
    have hln : ((List.range len).map f).length = len := by simp
    unfold maxLen at hm
    refine ⟨some a, cap, (List.range len).map f, by rw [hln], by rw [hln]; exact hl, hm, fun i hi => ?_⟩
    rw [hln] at hi
    obtain ⟨b, off, spot⟩ := a
    have h1 := (hV i (by omega)).1
    have hspot : spot = none := by simpa [Addr.add] using World.cell?_spot (hV 0 (by omega)).1
    subst hspot
    have hadd : (⟨b, off, none⟩ : Addr).add i = ⟨b, off + i, none⟩ := by simp [Addr.add]
    rw [hadd] at h1
    refine ⟨b, off, rfl, block_lt_of_cell h1, ?_⟩
    rw [h1, hf i hi]
    simp
theorem open25 {base : Nat} {v : Value} {d : DataW H} {p : List MemPlace} (hok : Value.okWide Try.prog W .any base 25 v) (h0 : DataW.Trod enc Try.prog W 0 (fun _ => true) true 25 v d p) : ∃ l, IntsV W v l := by
  obtain ⟨a, len, cap, rfl⟩ := okWide_slice Try.underlying25 hok
  obtain ⟨fuel, hf⟩ := h0
  obtain ⟨o, c, l, e, h⟩ := row_of iv Try.underlying25 (by kernel_rfl) (fun n V y h => by
    obtain ⟨z, e, _, _⟩ := DataW.trod_int Try.underlying3 h
    simp at e
    exact ⟨z, e⟩) hf
  simp [Value.cells] at e
  obtain ⟨rfl, rfl, rfl⟩ := e
  exact ⟨l, _, _, rfl, h⟩
theorem open37 {base : Nat} {v : Value} {d : DataW H} {p : List MemPlace} (hok : Value.okWide Try.prog W .any base 37 v) (h0 : DataW.Trod enc Try.prog W 0 (fun _ => true) true 37 v d p) : ∃ l, Mgs W v l := by
  obtain ⟨a, len, cap, rfl⟩ := okWide_slice Try.underlying37 hok
  obtain ⟨fuel, hf⟩ := h0
  rcases Deep.open_slice_pairs Try.underlying37 Try.underlying70 (by kernel_rfl) rfl rfl (by kernel_rfl) (by kernel_rfl) hf with ⟨hcs, _⟩ | ⟨x, l, c, m, n, V0, V1, D0, D1, P0, P1, hcs, _, hl, hm, hmm, hx, hall⟩
  · simp [Value.cells] at hcs
    obtain ⟨rfl, rfl, rfl⟩ := hcs
    exact ⟨[], ⟨_, _, rfl, Nat.le_refl _, by omega, fun i h => by simp at h⟩⟩
  · simp [Value.cells] at hcs
    obtain ⟨rfl, rfl, rfl⟩ := hcs
    simp only [Prod.mk.injEq] at hx
    obtain ⟨rfl, _⟩ := hx
    have hlm : len ≤ m := by rw [hmm]; simp; omega
    have each : ∀ i, i < len → ∃ y : Mg, W.cell? (x.add (i * 2)) = some (iv y.1) ∧ W.cell? (x.add (i * 2 + 1)) = some (iv y.2) := by
      intro i hi
      obtain ⟨c0, c1, t0, t1⟩ := hall i (by omega)
      obtain ⟨s0, e0, y0, ws0⟩ := DataW.trod_int Try.underlying3 t0
      obtain ⟨s1, e1, y1, ws1⟩ := DataW.trod_int Try.underlying3 t1
      simp at e0 e1
      exact ⟨(s0, s1), by rw [c0, e0], by rw [c1, e1]⟩
    obtain ⟨f, hfam⟩ := Deep.choose_lt each
    have hlen : ((List.range len).map f).length = len := by simp
    refine ⟨(List.range len).map f, ⟨some x, cap, by rw [hlen], by rw [hlen]; exact hl, by unfold maxLen at hm; omega, fun i hi => ?_⟩⟩
    rw [hlen] at hi
    obtain ⟨b, off, spot⟩ := x
    have hc := (hfam 0 (by omega)).1
    have hspot : spot = none := by simpa [Addr.add] using World.cell?_spot hc
    subst hspot
    have hadd : ∀ i, (⟨b, off, none⟩ : Addr).add i = ⟨b, off + i, none⟩ := fun i => by simp [Addr.add]
    rw [hadd] at hc
    have h := hfam i hi
    rw [hadd, hadd] at h
    refine ⟨b, off, rfl, block_lt_of_cell hc, ?_, ?_⟩
    · rw [h.1]; simp
    · rw [Nat.add_assoc, h.2]; simp
end
end Go.Proofs.Ytmmlibehihknbaa.mg
