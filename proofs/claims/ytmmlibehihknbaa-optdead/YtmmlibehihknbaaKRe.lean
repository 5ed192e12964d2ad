/-
  Contracts over this program: a text's bytes in a row of their own, exchanged one after the other; what a splitter does.
-/
import Derived.Test.YtmmlibehihknbaaM28
import Derived.Test.YtmmlibehihknbaaKPPk
import Derived.Test.YtmmlibehihknbaaM13
import Derived.Lib.ConvBytes
import Derived.Laws.IdiomStrings
import Derived.Laws.Append
namespace Go.Proofs.Ytmmlibehihknbaa.ir
open Go.ChangeShapes Go.WideShapes Go.ChangeAt Go.RowKit
open mg (Row In iv IntsV chain below_alloc Mg Mgs)
open df (Dfa DAt)
set_option linter.unusedVariables false
set_option maxRecDepth 100000

def by8 (n : Nat) : UInt8 := UInt8.ofNat n
theorem by8_nat (n : Nat) (h : n < 256) : (by8 n).toNat = n := by simp [by8]; omega
/-- the first k bytes are exchanged -/
def mixT (T : Nat → Nat) (s : ByteArray) (k : Nat) : List Nat := (List.range s.size).map fun i => if i < k then T (df.byteAt s i) else df.byteAt s i
theorem mixT_len (T : Nat → Nat) (s : ByteArray) (k : Nat) : (mixT T s k).length = s.size := by simp [mixT]
theorem mixT_get (T : Nat → Nat) (s : ByteArray) (k i : Nat) (h : i < s.size) : (mixT T s k)[i]? = some (if i < k then T (df.byteAt s i) else df.byteAt s i) := by simp [mixT, h]
theorem mixT_set (T : Nat → Nat) (s : ByteArray) (k : Nat) (h : k < s.size) : (mixT T s k).set k (T (df.byteAt s k)) = mixT T s (k + 1) := by
  apply List.ext_getElem?
  intro i
  by_cases hi : i < s.size
  · rw [mixT_get T s (k + 1) i hi, List.getElem?_set]
    by_cases e : k = i
    · subst e
      rw [if_pos rfl, if_pos (by rw [mixT_len]; exact hi), if_pos (by omega)]
    · rw [if_neg e, mixT_get T s k i hi]
      by_cases h1 : i < k
      · rw [if_pos h1, if_pos (by omega)]
      · rw [if_neg h1, if_neg (by omega)]
  · rw [List.getElem?_eq_none (by rw [List.length_set, mixT_len]; omega), List.getElem?_eq_none (by rw [mixT_len]; omega)]
/-- a row of bytes, of which nothing is frozen -/
def BRow (w : World) (g : Nat) (l : List Nat) : Prop := ∃ (cs : Array Value) (fz : Nat × Nat), w.heap[g]? = some (.cells cs 5 fz) ∧ l.length ≤ fz.1 ∧ l.length ≤ cs.size ∧ ∀ (i x : Nat), l[i]? = some x → cs[i]? = some (Value.int .u8 (x : Int))
section
variable {w w' : World} {g : Nat} {l : List Nat}
theorem BRow.lt (h : BRow w g l) : g < w.heap.size := by
  obtain ⟨cs, fz, h1, _⟩ := h
  exact (Array.getElem?_eq_some_iff.1 h1).1
theorem BRow.later (h : BRow w g l) (b : Below w.heap.size w w') : BRow w' g l := by
  have hl := h.lt
  obtain ⟨cs, fz, h1, h2⟩ := h
  exact ⟨cs, fz, (b.block g hl).trans h1, h2⟩
theorem BRow.cell (h : BRow w g l) {i x : Nat} (hx : l[i]? = some x) : w.cell? ⟨g, i, none⟩ = some (.int .u8 (x : Int)) := by
  obtain ⟨cs, fz, h1, _, _, h3⟩ := h
  simp only [World.cell?, h1]
  exact h3 i x hx
theorem BRow.fz (h : BRow w g l) {i : Nat} (hi : i < l.length) : w.frozen? ⟨g, i, none⟩ = false := by
  obtain ⟨cs, fz, h1, h2, _⟩ := h
  simp only [World.frozen?, h1]
  obtain ⟨lo, hi'⟩ := fz
  have : ¬ lo ≤ i := by have : l.length ≤ lo := h2; omega
  simp [this]
theorem BRow.set (h : BRow w g l) {i : Nat} (hi : i < l.length) (x : Nat) : BRow (w.setCell ⟨g, i, none⟩ (.int .u8 (x : Int))) g (l.set i x) := by
  have hlt := h.lt
  obtain ⟨cs, fz, h1, h2, h3, h4⟩ := h
  refine ⟨cs.setIfInBounds i (.int .u8 (x : Int)), fz, ?_, by rw [List.length_set]; exact h2, by rw [List.length_set, Array.size_setIfInBounds]; exact h3, fun j y hy => ?_⟩
  · unfold World.setCell
    simp only
    rw [Array.getElem?_modify, if_pos rfl, h1]
    rfl
  · rw [Array.getElem?_setIfInBounds]
    rw [List.getElem?_set] at hy
    by_cases e : i = j
    · subst e
      rw [if_pos rfl, if_pos hi] at hy
      rw [if_pos rfl, if_pos (by omega), Option.some.inj hy]
    · rw [if_neg e] at hy ⊢
      exact h4 j y hy
end
theorem size_list (s : ByteArray) : s.data.toList.length = s.size := by cases s; rfl
theorem byteAt_list (s : ByteArray) (i : Nat) : df.byteAt s i = (s.data.toList.getD i 0).toNat := by
  unfold df.byteAt
  congr 1
  rw [List.getD_eq_getElem?_getD]
  by_cases h : i < s.size
  · rw [getElem?_pos s i h, List.getElem?_eq_getElem (by rw [size_list]; exact h)]; rfl
  · rw [getElem?_neg s i h, List.getElem?_eq_none (by rw [size_list]; omega)]
theorem conv45 (T : Nat → Nat) (W : World) (s : ByteArray) (hs : s.size ≤ 1000000) : ∃ cap W', (convert 9 63 (.string s)).run Try.prog W = .ok (.slice (some ⟨W.heap.size, 0, none⟩) s.size cap) W' ∧ BRow W' W.heap.size (mixT T s 0) ∧ s.size ≤ cap ∧ cap ≤ 9223372036854775807 ∧ Below W.heap.size W W' := by
  have h1 := grownCap_ge W s.size 0 5
  have h2 := grownCap_le_maxLen W s.size 0 5 (by unfold maxLen; omega)
  have hsz : (Lib.bytesCells W 5 s).size = grownCap W s.size 0 5 := by
    have : s.data.size = s.size := rfl
    simp [Lib.bytesCells]
    omega
  unfold maxLen at h2
  refine ⟨_, _, Lib.run_convert_string_bytes W 9 63 5 s Try.underlying9 Try.underlying63 Try.underlying5, ⟨_, _, Lib.bytesWorld_at_new W 5 s, ?_, ?_, fun i x hx => ?_⟩, by omega, h2, ⟨rfl, rfl, rfl, by rw [Lib.bytesWorld_size]; omega, fun j hj => Lib.bytesWorld_at_old W 5 s j hj⟩⟩
  · rw [mixT_len]; show s.size ≤ (Lib.bytesCells W 5 s).size; omega
  · rw [mixT_len]; omega
  · have hi : i < s.size := by
      have := (List.getElem?_eq_some_iff.1 hx).1
      rwa [mixT_len] at this
    have h3 := Lib.bytesWorld_cell W 5 s i hi
    simp only [World.cell?, Lib.bytesWorld_at_new] at h3
    rw [mixT_get T s 0 i hi, if_neg (by omega)] at hx
    rw [← Option.some.inj hx, byteAt_list]
    exact h3
/-- the text with all bytes exchanged -/
def tT (T : Nat → Nat) (s : ByteArray) : ByteArray := ⟨((mixT T s s.size).map by8).toArray⟩
theorem tT_size (T : Nat → Nat) (s : ByteArray) : (tT T s).size = s.size := by
  show (((mixT T s s.size).map by8).toArray).size = s.size
  rw [List.size_toArray, List.length_map, mixT_len]
theorem tT_at (T : Nat → Nat) (s : ByteArray) (hT : ∀ i, i < 256 → T i < 256) (i : Nat) (h : i < s.size) : df.byteAt (tT T s) i = T (df.byteAt s i) := by
  rw [byteAt_list]
  show ((((mixT T s s.size).map by8)).getD i 0).toNat = _
  rw [List.getD_eq_getElem?_getD, List.getElem?_map, mixT_get T s _ i h, if_pos h]
  exact by8_nat _ (hT _ (df.byte_lt s i))
theorem BRow.conv {W : World} {g : Nat} {T : Nat → Nat} {s : ByteArray} (hT : ∀ i, i < 256 → T i < 256) (h : BRow W g (mixT T s s.size)) (cap : Nat) : (convert 63 9 (.slice (some ⟨g, 0, none⟩) s.size cap)).run Try.prog W = .ok (.string (tT T s)) W := by
  have hl : ((mixT T s s.size).map by8).length = s.size := by rw [List.length_map, mixT_len]
  have := run_convert_bytes_back (P := Try.prog) W 63 9 5 ⟨g, 0, none⟩ cap ((mixT T s s.size).map by8) Try.underlying63 Try.underlying5 Try.underlying9 (fun j hj => by
    rw [hl] at hj
    have hg := mixT_get T s s.size j hj
    rw [if_pos hj] at hg
    have hc := h.cell hg
    have ha : (⟨g, 0, none⟩ : Addr).add j = ⟨g, j, none⟩ := by simp only [Addr.add, Nat.zero_add]; simp; intro h; exact h.symm
    rw [ha, hc, List.getElem_map]
    have e : (mixT T s s.size)[j]'(by rw [mixT_len]; exact hj) = T (df.byteAt s j) := by
      have := List.getElem?_eq_getElem (l := mixT T s s.size) (i := j) (by rw [mixT_len]; exact hj)
      rw [hg] at this
      exact (Option.some.inj this).symm
    rw [e, by8_nat _ (hT _ (df.byte_lt s j))])
  rw [hl] at this
  exact this
/-- what goes from stage to stage -/
def FBox (w : World) (fb : Nat) (s : ByteArray) (vp vi : Value) : Prop := w.heap[fb]? = some (.cells #[.string s, vp, vi] 58 (0, 0))
/-- one block changes -/
structure Ch (fb : Nat) (w w' : World) : Prop where
  os : w'.os = w.os
  tape : w'.tape = w.tape
  output : w'.output = w.output
  size : w.heap.size ≤ w'.heap.size
  block : ∀ k, k < w.heap.size → k ≠ fb → w'.heap[k]? = w.heap[k]?
theorem Ch.below {fb : Nat} {w w' : World} (h : Below w.heap.size w w') : Ch fb w w' := ⟨h.os, h.tape, h.output, h.size, fun k hk _ => h.block k hk⟩
theorem Ch.trans {fb : Nat} {w w1 w2 : World} (h : Ch fb w w1) (k : Ch fb w1 w2) : Ch fb w w2 := ⟨k.os.trans h.os, k.tape.trans h.tape, k.output.trans h.output, Nat.le_trans h.size k.size, fun b hb hne => (k.block b (Nat.lt_of_lt_of_le hb h.size) hne).trans (h.block b hb hne)⟩
theorem Ch.set {fb : Nat} {w : World} (i : Nat) (v : Value) : Ch fb w (w.setCell ⟨fb, i, none⟩ v) := ⟨rfl, rfl, rfl, by simp, fun k _ hne => Below.heap_setCell _ _ _ k hne⟩
theorem Ch.base {fb B : Nat} {w w' : World} (h : Ch fb w w') (hB : B ≤ w.heap.size) (hf : B ≤ fb) : Below B w w' := ⟨h.os, h.tape, h.output, h.size, fun k hk => h.block k (by omega) (by omega)⟩
theorem set_heap (w : World) (g : Nat) (cs : Array Value) (t : TypeId) (i : Nat) (v : Value) (h : w.heap[g]? = some (.cells cs t (0, 0))) : (w.setCell ⟨g, i, none⟩ v).heap[g]? = some (.cells (cs.setIfInBounds i v) t (0, 0)) := by
  show (w.heap.modify g _)[g]? = _
  rw [Array.getElem?_modify, if_pos rfl, h]
  rfl
theorem FBox.lt {w : World} {fb : Nat} {s : ByteArray} {vp vi : Value} (h : FBox w fb s vp vi) : fb < w.heap.size := (Array.getElem?_eq_some_iff.1 h).1
theorem FBox.later {w w' : World} {fb : Nat} {s : ByteArray} {vp vi : Value} (h : FBox w fb s vp vi) (b : Below w.heap.size w w') : FBox w' fb s vp vi := (b.block fb h.lt).trans h
theorem FBox.cells {w : World} {fb : Nat} {s : ByteArray} {vp vi : Value} (h : FBox w fb s vp vi) : w.cell? ⟨fb, 0, none⟩ = some (.string s) ∧ w.cell? ⟨fb, 1, none⟩ = some vp ∧ w.cell? ⟨fb, 2, none⟩ = some vi := by
  refine ⟨?_, ?_, ?_⟩ <;> (rw [Lib.cell_of_heap h]; rfl)
theorem mapL_cell {w : World} {b o : Nat} {mp : Nat → Nat} (h : w.rangeAt b o (mapL mp)) (x : Nat) (hx : x < 256) : w.cell? ⟨b, o + x, none⟩ = some (.int .u8 (mp x : Nat)) := h x _ (mapL_at mp x hx)
def Do2 (g : Sg) (s : ByteArray) (fb : Nat) (vi : Value) (w : World) (e : Ending) (w' : World) : Prop := e = .returned (.int .i64 0) ∧ ∃ v, FBox w' fb s v vi ∧ w'.ownsRow w.heap.size 9 1 v (pc.textsL g.d (tT g.mp s)).length ((pc.textsL g.d (tT g.mp s)).map Value.string) ∧ Ch fb w w'
theorem range_later {w w' : World} {b o : Nat} {l : List Value} (h : w.rangeAt b o l) (hb : b < w.heap.size) (k : Below w.heap.size w w') : w'.rangeAt b o l := fun j v hj => (k.cell (p := ⟨b, o + j, none⟩) hb).trans (h j v hj)
set_option maxHeartbeats 4000000 in
theorem do2 (g : Sg) (p : Sp) (w : World) (h : SgAt w g p) (hr : df.right g.d = true) (s : ByteArray) (hs : s.size ≤ 262144) (fb : Nat) (vp vi : Value) (hf : FBox w fb s vp vi) : Calls Try.prog 67 #[.agg (p.cs.toList ++ mapL g.mp).toArray, .pointer (some ⟨fb, 0, none⟩)] w (Do2 g s fb vi w) := by
  obtain ⟨C, hC⟩ : ∃ C, C = (p.cs.toList ++ mapL g.mp).toArray := ⟨_, rfl⟩
  obtain ⟨w1, HW1⟩ : ∃ w1, Hid (w1 = w.alloc (.cells C 76)) := ⟨_, rfl⟩
  have b1 : Below w.heap.size w w1 := by rw [HW1.out]; exact below_alloc w _
  have hz : w.heap.size < w1.heap.size := by rw [HW1.out]; simp
  have hx1 : w1.heap[w.heap.size]? = some (.cells C 76 (0, 0)) := by rw [HW1.out]; exact World.alloc_heap_new w _
  have r1 : w1.rangeAt w.heap.size 0 p.cs.toList := range_mid (w := w1) (b := w.heap.size) (t := 76) (fr := (0, 0)) [] p.cs.toList (mapL g.mp) (by rw [hx1, hC]; rfl)
  have r2 : w1.rangeAt w.heap.size 258 (mapL g.mp) := by
    have := range_mid (w := w1) (b := w.heap.size) (t := 76) (fr := (0, 0)) p.cs.toList (mapL g.mp) [] (by rw [hx1, hC]; simp)
    rw [Array.length_toList, h.d.size] at this
    exact this
  have HR1 := (show Hid (∀ W, Below w1.heap.size w1 W → W.rangeAt w.heap.size 0 p.cs.toList) from fun W b => range_later r1 hz b)
  have HR2 := (show Hid (∀ W, Below w1.heap.size w1 W → ∀ x, x < 256 → W.cell? ⟨w.heap.size, 258 + x, none⟩ = some (.int .u8 (g.mp x : Nat))) from fun W b x hx => mapL_cell (range_later r2 hz b) x hx)
  have HF1 := (show Hid (FBox w1 fb s vp vi) from hf.later b1)
  have q0 := HF1.out.cells.1
  have q00 : (w.alloc (.cells C 76)).cell? ⟨fb, 0, none⟩ = some (.string s) := by rw [← HW1.out]; exact q0
  have q000 := hf.cells.1
  have hfl := hf.lt
  have HD := (show Hid (∀ W, Below w1.heap.size w1 W → DAt (df.In W) W g.d p.cs p.o p.cap p.ao p.acap) from fun W b => (h.d.later b1).later b)
  have HMP := (show Hid (∀ b, g.mp b < 256) from h.mp)
  have i1 := info36c p.cs h.d.size
  have HB1 := (show Hid (Below w.heap.size w w1) from b1)
  obtain ⟨bc, w2, hcv, hBR, hbc1, hbc2, b2⟩ := conv45 g.mp w1 s (by omega)
  have HBR := (show Hid (BRow w2 w1.heap.size (mixT g.mp s 0)) from hBR)
  have H55 := (show Hid (∀ W, Below w1.heap.size w1 W → Calls Try.prog 69 #[.agg p.cs.toList.toArray, .string (tT g.mp s)] W fun e W' => ∃ v, e = .returned (.tuple #[v, .int .i64 0]) ∧ W'.ownsRow W.heap.size 9 1 v (pc.textsL g.d (tT g.mp s)).length ((pc.textsL g.d (tT g.mp s)).map Value.string) ∧ Below W.heap.size W W') from fun W b => by
    rw [Array.toArray_toList]
    exact pc.texts_any g.d (tT g.mp s) hr (by rw [tT_size]; omega) _ _ _ _ _ W (HD.out W b))
  rw [← hC]
  generalize p.cs.toList = K at *
  clear h hf hC b1 hz hx1 r1 r2 hr hBR
  go_enter Try.func67, Try.ntmps67
  go_wp2_with (fail)
  rw [← HW1.out]
  clear HW1 q00 q000
  rw [show Sem.run Try.prog (convert 9 63 (.string s)) w1 = _ from hcv]
  clear hcv
  go_wp2_with (fail)
  go_loopw [16] (fun y wr => ∃ k : Nat, y = .int .i64 (k : Int) ∧ k ≤ s.size ∧ Below w1.heap.size w1 wr ∧ Hid (BRow wr w1.heap.size (mixT g.mp s k))) (fun y _ => s.size - (intOf y).toNat)
  case atStart => exact ⟨0, rfl, by omega, b2, HBR⟩
  case round =>
    clear HBR
    obtain ⟨k, rfl, hk, hBk, HB⟩ := hrel
    by_cases hend : k < s.size
    · have hb8 := df.byte_lt s k
      have k1 := HB.out.cell (i := k) (x := df.byteAt s k) (by rw [mixT_get g.mp s k k hend, if_neg (by omega)])
      have k2 := HR2.out wr hBk (df.byteAt s k) hb8
      have hxl := HMP.out (df.byteAt s k)
      have fk := HB.out.fz (i := k) (by rw [mixT_len]; exact hend)
      have HB2 : Hid (BRow (wr.setCell ⟨w1.heap.size, k, none⟩ (.int .u8 (g.mp (df.byteAt s k) : Nat))) w1.heap.size (mixT g.mp s (k + 1))) := by
        show BRow _ _ _
        have h1 := HB.out.set (i := k) (by rw [mixT_len]; exact hend) (g.mp (df.byteAt s k))
        rw [← mixT_set g.mp s k hend]
        exact h1
      have HB3 : Hid (Below w1.heap.size w1 (wr.setCell ⟨w1.heap.size, k, none⟩ (.int .u8 (g.mp (df.byteAt s k) : Nat)))) := hBk.setCell (p := ⟨w1.heap.size, k, none⟩) (by simp) _
      clear HB
      generalize g.mp (df.byteAt s k) = x at *
      generalize df.byteAt s k = bb at *
      go_wp2_with (fail)
      go_roundw
      case rel => exact ⟨k + 1, by go_num, by omega, HB3.out, HB2⟩
      case measure => simp [intOf]; omega
    · obtain rfl : k = s.size := by omega
      have r1 := HR1.out wr hBk
      have c55 := H55.out wr hBk
      have hcv2 := HB.out.conv (T := g.mp) (fun i _ => HMP.out i) bc
      have HFr := (show Hid (FBox wr fb s vp vi) from HF1.out.later hBk)
      have HBK := (show Hid (Below w1.heap.size w1 wr) from hBk)
      clear HB H55 HR2 q0
      go_wp2_with (first | (refine wpList_load_mid rfl 36 (.tmp 31) rfl w.heap.size 0 rfl K _ r1 Try.underlying36 rfl i1 ?_))
      go_at_call 69
      refine c55.mono ?_
      rintro e w5 ⟨v, rfl, hv, b5⟩
      have HF5 := (show Hid (FBox w5 fb s vp vi) from HFr.out.later b5)
      have f1 := Lib.frozen_of_heap (show w5.heap[fb]? = some (.cells #[.string s, vp, vi] 58 (0, 0)) from HF5.out) 1
      have q1 := HF5.out.cells.2.1
      obtain ⟨vo, vc, rfl, _, _⟩ := ow.form hv
      have HV := (show Hid (w5.ownsRow wr.heap.size 9 1 (.slice vo (pc.textsL g.d (tT g.mp s)).length vc) (pc.textsL g.d (tT g.mp s)).length ((pc.textsL g.d (tT g.mp s)).map Value.string)) from hv)
      clear hv
      have HB5 := (show Hid (Below wr.heap.size wr w5) from b5)
      clear c55 r1 hcv2 b5
      go_wp2_with (fail)
      go_ret
      have hfw : fb < w.heap.size := hfl
      have hsz : w.heap.size ≤ wr.heap.size := Nat.le_trans HB1.out.size HBK.out.size
      have b05 : Below w.heap.size w w5 := chain HB1.out (chain HBK.out HB5.out)
      refine ⟨rfl, .slice vo (pc.textsL g.d (tT g.mp s)).length vc, ?_, ?_, ?_⟩
      · show _ = _
        rw [set_heap w5 fb _ _ 1 _ HF5.out]
        rfl
      · refine pc.base_down (B := wr.heap.size) ?_ hsz
        exact ow.keep HV.out fun q hq => Below.heap_setCell _ _ _ q (by have := (ow.lt HV.out hq).1; show q ≠ fb; omega)
      · exact (Ch.below b05).trans (Ch.set 1 _)
end Go.Proofs.Ytmmlibehihknbaa.ir
