/-
  Contracts over this program: rows of sets (builder.nowhere), their texts (builder.text), dfa.has.
-/
import Derived.Test.YthknhbmibmndoaaMx05
import Derived.Test.YthknhbmibmndoaaMx02
namespace Go.Proofs.Ythknhbmibmndoaa.bd
open Go.Sort Go.ChangeShapes Go.WideShapes Go.ChangeAt Go.RowKit Go.Maps
open st (Q4 none4 Fits has key sig packTo nth cells4 chain)
set_option linter.unusedVariables false
set_option maxRecDepth 10000

def scells (l : List Q4) : Array Value := (cells4 l).toArray
def SRow (w : World) (g : Nat) (l : List Q4) : Prop := w.heap[g]? = some (.cells (scells l) 60 (0, 0))
section
variable {w w' : World} {g : Nat} {l : List Q4}
theorem SRow.lt (h : SRow w g l) : g < w.heap.size := (Array.getElem?_eq_some_iff.1 h).1
theorem SRow.later (h : SRow w g l) (b : Below w.heap.size w w') : SRow w' g l := by unfold SRow; rw [b.block g h.lt]; exact h
theorem SRow.keep (h : SRow w g l) (e : w'.heap[g]? = w.heap[g]?) : SRow w' g l := e.trans h
theorem SRow.fz (h : SRow w g l) (i : Nat) : w.frozen? ⟨g, i, none⟩ = false := Lib.frozen_of_heap h i
theorem SRow.cells (h : SRow w g l) (i : Nat) (hi : i < l.length) : w.cell? ⟨g, i * 4, none⟩ = some (.int .u64 (nth l i).a) ∧ w.cell? ⟨g, i * 4 + 1, none⟩ = some (.int .u64 (nth l i).b) ∧ w.cell? ⟨g, i * 4 + 2, none⟩ = some (.int .u64 (nth l i).c) ∧ w.cell? ⟨g, i * 4 + 3, none⟩ = some (.int .u64 (nth l i).d) := by
  obtain ⟨h0, h1, h2, h3⟩ := st.cells4_at l i hi
  refine ⟨?_, ?_, ?_, ?_⟩
  all_goals (rw [Lib.cell_of_heap h]; simp only [scells, List.getElem?_toArray]; assumption)
theorem SRow.sets (h : SRow w g l) (hl : l.length ≤ 1000000) : st.Sets w (.slice (some ⟨g, 0, none⟩) l.length l.length) l :=
  .inr ⟨g, 0, l.length, rfl, Nat.le_refl _, by omega, h.lt, fun i hi => by
    rw [Nat.zero_add]; exact h.cells i hi⟩
end
theorem cells4_len (l : List Q4) : (cells4 l).length = l.length * 4 := by
  induction l with
  | nil => rfl
  | cons x l ih => simp [cells4, ih]; omega
theorem cells4_set (l : List Q4) (q : Q4) : ∀ i, i < l.length → (((((cells4 l).set (i * 4) (.int .u64 q.a)).set (i * 4 + 1) (.int .u64 q.b)).set (i * 4 + 2) (.int .u64 q.c)).set (i * 4 + 3) (.int .u64 q.d)) = cells4 (l.set i q) := by
  induction l with
  | nil => intro i h; simp at h
  | cons x l ih =>
    intro i h
    cases i with
    | zero => simp [cells4]
    | succ i =>
      have := ih i (by simpa using h)
      simp only [cells4, List.set_cons_succ]
      rw [show (i + 1) * 4 = i * 4 + 1 + 1 + 1 + 1 by omega]
      simp only [List.set_cons_succ]
      rw [this]
theorem SRow.put {w : World} {g : Nat} {l : List Q4} (h : SRow w g l) (i : Nat) (hi : i < l.length) (q : Q4) : SRow ((((w.setCell ⟨g, i * 4, none⟩ (.int .u64 q.a)).setCell ⟨g, i * 4 + 1, none⟩ (.int .u64 q.b)).setCell ⟨g, i * 4 + 2, none⟩ (.int .u64 q.c)).setCell ⟨g, i * 4 + 3, none⟩ (.int .u64 q.d)) g (l.set i q) := by
  unfold SRow
  rw [nf.set_heap _ g _ _ _ _ (nf.set_heap _ g _ _ _ _ (nf.set_heap _ g _ _ _ _ (nf.set_heap w g _ _ _ _ h)))]
  congr 2
  simp only [scells, List.setIfInBounds_toArray]
  rw [cells4_set l q i hi]
theorem set4_other (w : World) (g k : Nat) (hne : k ≠ g) (i : Nat) (a b c d : Value) : ((((w.setCell ⟨g, i * 4, none⟩ a).setCell ⟨g, i * 4 + 1, none⟩ b).setCell ⟨g, i * 4 + 2, none⟩ c).setCell ⟨g, i * 4 + 3, none⟩ d).heap[k]? = w.heap[k]? := by
  rw [Below.heap_setCell _ _ _ k hne, Below.heap_setCell _ _ _ k hne, Below.heap_setCell _ _ _ k hne, Below.heap_setCell _ _ _ k hne]
theorem below_set4 {N : Nat} {w w' : World} (h : Below N w w') {g : Nat} (hg : N ≤ g) (i : Nat) (a b c d : Value) : Below N w ((((w'.setCell ⟨g, i * 4, none⟩ a).setCell ⟨g, i * 4 + 1, none⟩ b).setCell ⟨g, i * 4 + 2, none⟩ c).setCell ⟨g, i * 4 + 3, none⟩ d) :=
  (((h.setCell (p := ⟨g, i * 4, none⟩) hg _).setCell (p := ⟨g, i * 4 + 1, none⟩) hg _).setCell (p := ⟨g, i * 4 + 2, none⟩) hg _).setCell (p := ⟨g, i * 4 + 3, none⟩) hg _
theorem cells4_none (n : Nat) : cells4 (List.replicate n none4) = List.replicate (n * 4) (.int .u64 0) := by
  induction n with
  | zero => rfl
  | succ n ih =>
    rw [List.replicate_succ, cells4, ih, show (n + 1) * 4 = n * 4 + 1 + 1 + 1 + 1 by omega]
    simp [List.replicate_succ, none4]
theorem scells_made (n : Nat) : madeCells #[.int .u64 0, .int .u64 0, .int .u64 0, .int .u64 0] (n * 4) = scells (List.replicate n none4) := by
  unfold scells
  rw [cells4_none]
  apply Array.ext
  · simp [size_madeCells]
  · intro i h1 h2
    have h3 : i % 4 = 0 ∨ i % 4 = 1 ∨ i % 4 = 2 ∨ i % 4 = 3 := by omega
    rcases h3 with h | h | h | h <;> simp [madeCells, h]
theorem make93 (n : Nat) (hn : n ≤ 1000000) (W : World) : (Instr.makeSlice 93 (.int .i64 (n : Int)) (.int .i64 (n : Int))).run Try.prog W = .ok (.slice (some ⟨W.heap.size, 0, none⟩) n n) (W.alloc (.cells (scells (List.replicate n none4)) 60)) := by
  obtain ⟨i0, hi, hz0, hz1, hz2⟩ := info_parts st.info25
  have hr := run_make (P := Try.prog) W 93 60 i0 _ Try.underlying93 hi hz0 .i64 .i64 n n (by omega) (Int.le_refl _) (by rw [hz2]; omega) (by omega)
  simp only [Int.toNat_natCast, hz1] at hr
  rw [hr, ← scells_made]
  rfl
theorem srow_new (W : World) (l : List Q4) : SRow (W.alloc (.cells (scells l) 60)) W.heap.size l := heap_alloc_new W _

def NowIs (n : Nat) : Prop := ∀ b w, w.cell? ⟨b, 0, none⟩ = some (.int .i64 (n : Int)) → Calls Try.prog 54 #[.pointer (some ⟨b, 0, none⟩)] w fun e w' => e = .returned (.slice (some ⟨w.heap.size, 0, none⟩) n n) ∧ w' = w.alloc (.cells (scells (List.replicate n none4)) 60)
set_option maxHeartbeats 1000000 in
theorem now_any (n : Nat) (hn : n ≤ 1000000) : NowIs n := by
  intro b w h0
  have mk := make93 n hn
  go_enter Try.func54, Try.ntmps54
  go_wp2_with (fail)
  go_ret
  exact ⟨rfl, rfl⟩

def TextIs (l : List Q4) (c : Nat) (t : ByteArray) : Prop := ∀ b v w, b < w.heap.size → w.cell? ⟨b, 0, none⟩ = some (.int .i64 (l.length : Int)) → st.Sets w v l → Calls Try.prog 53 #[.pointer (some ⟨b, 0, none⟩), v, .int .u8 c] w fun e w' => e = .returned (.string t) ∧ Below w.heap.size w w'
set_option maxHeartbeats 2000000 in
set_option maxRecDepth 100000 in
theorem text_any (l : List Q4) (hf : ∀ q ∈ l, Fits q) (hlen : l.length ≤ 1000000) (hpos : 1 ≤ l.length) (c : Nat) (hc : c < 256) (t : ByteArray) (ht : t = ⟨(key l c).toArray⟩) : TextIs l c t := by
  intro b v w hb h0 hv
  have HT : Hid (t = ⟨(key l c).toArray⟩) := ht
  clear ht
  rcases hv with ⟨rfl, a, cap, rfl⟩ | ⟨g, off, cap, rfl, hl, hm, hlt, hcell⟩
  · simp at hpos
  · obtain ⟨n, hn⟩ : ∃ n, n = (l.length + 7) / 8 := ⟨_, rfl⟩
    have HE1 : Hid (((l.length : Int) + 8 - 1) / 8 = (n : Int)) := by show _ = _; omega
    have hr0 := st.made_row w n
    obtain ⟨i0, hi0, hz0, hz1, hz2⟩ := info_parts st.info5
    have hB0 : Below w.heap.size w (w.alloc (.cells (madeCells #[.int .u8 0] n) 5)) := (Below.refl _ _).alloc (Nat.le_refl _) _
    have h1 := (hB0.cell (p := ⟨b, 0, none⟩) hb).trans h0
    have hn2 : n ≤ 1000000 := by omega
    have HNN : Hid (n = (l.length + 7) / 8) := hn
    clear hn
    go_enter Try.func53, Try.ntmps53
    go_wp2_with (refine wpList_make_row _ rfl (.tmp 16) (.tmp 16) 74 rfl 5 i0 (.int .u8 0) Try.underlying74 hi0 hz0 hz1 rfl .i64 .i64 n (congrArg (Value.int .i64) HE1.out) (congrArg (Value.int .i64) HE1.out) (by rw [hz2]; omega) (by omega) ?_)
    clear HE1 hi0 hz0 hz1 hz2
    go_loopw [23] (fun x wr => ∃ i : Nat, x = .int .i64 i ∧ i ≤ l.length ∧ st.Row wr w.heap.size (packTo (sig l c) i) ∧ Below w.heap.size w wr) (fun x _ => l.length - (intOf x).toNat)
    case atStart => exact ⟨0, rfl, by omega, by rw [packTo, st.sig_length, ← HNN.out]; exact hr0, hB0⟩
    case round =>
      obtain ⟨i, rfl, hi, hR, hB⟩ := hrel
      have hpl := st.packTo_length (sig l c) i
      rw [st.sig_length, ← HNN.out] at hpl
      by_cases hend : i < l.length
      · obtain ⟨c0, c1, c2, c3⟩ := hcell i hend
        rw [← hB.cell (p := ⟨g, off + i * 4, none⟩) hlt] at c0
        rw [← hB.cell (p := ⟨g, off + i * 4 + 1, none⟩) hlt] at c1
        rw [← hB.cell (p := ⟨g, off + i * 4 + 2, none⟩) hlt] at c2
        rw [← hB.cell (p := ⟨g, off + i * 4 + 3, none⟩) hlt] at c3
        have hfx := hf _ (st.nth_mem l i hend)
        by_cases hh : has (nth l i) c = true
        · have hp := st.has_any (nth l i) hfx c hc true hh.symm
          obtain ⟨k, hk⟩ : ∃ k, k = i / 8 := ⟨_, rfl⟩
          obtain ⟨m, hm8⟩ : ∃ m, m = i % 8 := ⟨_, rfl⟩
          have e2 : ((i : Int) / 8) = (k : Int) := by omega
          have e3 : ((i : Int) % 8) = (m : Int) := by omega
          obtain ⟨y, hy⟩ : ∃ y, y = (packTo (sig l c) i).getD k 0 := ⟨_, rfl⟩
          have hy2 : y < 256 := by rw [hy]; exact st.getD_lt_256 _ (st.packTo_lt _ _) _
          have e4 := st.bit8_or y m hy2 (by omega)
          have hkn : k < n := by have := HNN.out; omega
          have HP : Hid (packTo (sig l c) (i + 1) = (packTo (sig l c) i).set k (y ||| 2 ^ m)) := by show _ = _; rw [st.pack_in hend hh, hy, hk, hm8]
          have HC : Hid (∀ W, st.Row W w.heap.size (packTo (sig l c) i) → W.cell? ⟨w.heap.size, k, none⟩ = some (.int .u8 (y : Nat))) := fun W hW => by rw [hW.cell k (by omega), hy]
          generalize nth l i = x at *
          clear hcell hh hk hm8 hy hpl
          go_wp2_with (go_at_call 48; refine (hp _).mono ?_; rintro e w1 ⟨rfl, b1⟩; have hR3 := hR.later b1; have hB3 := chain hB b1; have kc := HC.out _ hR3; have kf := hR3.fz k)
          go_region
          all_goals go_wp2
          all_goals exact ⟨⟨i + 1, by go_num, by omega, by rw [HP.out]; exact hR3.put k _, (hB3.setCell (p := ⟨w.heap.size, k, none⟩) (Nat.le_refl _) _).drew⟩, by simp [intOf]; omega⟩
        · have hfl : has (nth l i) c = false := by simpa using hh
          have hp := st.has_any (nth l i) hfx c hc false hfl.symm
          have HP : Hid (packTo (sig l c) (i + 1) = packTo (sig l c) i) := st.pack_out hend hfl
          generalize nth l i = x at *
          clear hcell hh hfl
          go_wp2_with (go_at_call 48; refine (hp _).mono ?_; rintro e w1 ⟨rfl, b1⟩; have hR3 := hR.later b1; have hB3 := chain hB b1)
          go_roundw
          case rel => exact ⟨i + 1, by go_num, by omega, by rw [HP.out]; exact hR3, hB3⟩
          case measure => simp [intOf]; omega
      · have he : i = l.length := by omega
        have htx := hR.text (st.packTo_lt _ _)
        rw [hpl] at htx
        have HE : Hid (t = ⟨((packTo (sig l c) i).map UInt8.ofNat).toArray⟩) := by show _ = _; rw [HT.out, he]; rfl
        clear HT hcell
        go_wp2
        go_ret
        exact ⟨by rw [HE.out, he]; rfl, hB⟩
end Go.Proofs.Ythknhbmibmndoaa.bd
