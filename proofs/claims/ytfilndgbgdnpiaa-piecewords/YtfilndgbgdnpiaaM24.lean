/-
  Texts put together: Contracts over this program: rows of sets (builder.nowhere), their texts (builder.text), dfa.has. Contracts over this program: whether a state is in a set's text (dfa.has), the states of a text (builder.states).
-/
import Derived.Test.YtfilndgbgdnpiaaM23
import Derived.Test.YtfilndgbgdnpiaaM06
namespace Go.Proofs.Ytfilndgbgdnpiaa.bd
open Go.Sort Go.ChangeShapes Go.WideShapes Go.ChangeAt Go.RowKit Go.Maps
open st (Q4 none4 Fits has key sig packTo nth cells4 chain)
set_option linter.unusedVariables false
set_option maxRecDepth 10000

def scells (l : List Q4) : Array Value := (cells4 l).toArray
def SRow (w : World) (g : Nat) (l : List Q4) : Prop := w.heap[g]? = some (.cells (scells l) 25 (0, 0))
section
variable {w w' : World} {g : Nat} {l : List Q4}
theorem SRow.lt (h : SRow w g l) : g < w.heap.size := (Array.getElem?_eq_some_iff.1 h).1
theorem SRow.later (h : SRow w g l) (b : Below w.heap.size w w') : SRow w' g l := by unfold SRow; rw [b.block g h.lt]; exact h
theorem SRow.keep (h : SRow w g l) (e : w'.heap[g]? = w.heap[g]?) : SRow w' g l := e.trans h
theorem SRow.fz (h : SRow w g l) (i : Nat) : w.frozen? ⟨g, i, none⟩ = false := Lib.frozen_of_heap h i
theorem SRow.cells (h : SRow w g l) (i : Nat) (hi : i < l.length) : w.cell? ⟨g, i * 4, none⟩ = some (.int .u64 (nth l i).a) ∧ w.cell? ⟨g, i * 4 + 1, none⟩ = some (.int .u64 (nth l i).b) ∧ w.cell? ⟨g, i * 4 + 2, none⟩ = some (.int .u64 (nth l i).c) ∧ w.cell? ⟨g, i * 4 + 3, none⟩ = some (.int .u64 (nth l i).d) := by
  obtain ⟨h0, h1, h2, h3⟩ := st.cells4_at l i hi
  refine ⟨?_, ?_, ?_, ?_⟩
  all_goals (rw [Lib.cell_of_heap h]; simp only [scells, List.getElem?_toArray]; assumption)
theorem SRow.sets (h : SRow w g l) (hl : l.length ≤ 1000000) : st.Sets w (.slice (some ⟨g, 0, none⟩) l.length l.length) l :=
  .inr ⟨g, 0, l.length, rfl, Nat.le_refl _, by omega, h.lt, fun i hi => by
    rw [Nat.zero_add]; exact h.cells i hi⟩
end
theorem cells4_len (l : List Q4) : (cells4 l).length = l.length * 4 := by
  induction l with
  | nil => rfl
  | cons x l ih => simp [cells4, ih]; omega
theorem cells4_set (l : List Q4) (q : Q4) : ∀ i, i < l.length → (((((cells4 l).set (i * 4) (.int .u64 q.a)).set (i * 4 + 1) (.int .u64 q.b)).set (i * 4 + 2) (.int .u64 q.c)).set (i * 4 + 3) (.int .u64 q.d)) = cells4 (l.set i q) := by
  induction l with
  | nil => intro i h; simp at h
  | cons x l ih =>
    intro i h
    cases i with
    | zero => simp [cells4]
    | succ i =>
      have := ih i (by simpa using h)
      simp only [cells4, List.set_cons_succ]
      rw [show (i + 1) * 4 = i * 4 + 1 + 1 + 1 + 1 by omega]
      simp only [List.set_cons_succ]
      rw [this]
theorem SRow.put {w : World} {g : Nat} {l : List Q4} (h : SRow w g l) (i : Nat) (hi : i < l.length) (q : Q4) : SRow ((((w.setCell ⟨g, i * 4, none⟩ (.int .u64 q.a)).setCell ⟨g, i * 4 + 1, none⟩ (.int .u64 q.b)).setCell ⟨g, i * 4 + 2, none⟩ (.int .u64 q.c)).setCell ⟨g, i * 4 + 3, none⟩ (.int .u64 q.d)) g (l.set i q) := by
  unfold SRow
  rw [nf.set_heap _ g _ _ _ _ (nf.set_heap _ g _ _ _ _ (nf.set_heap _ g _ _ _ _ (nf.set_heap w g _ _ _ _ h)))]
  congr 2
  simp only [scells, List.setIfInBounds_toArray]
  rw [cells4_set l q i hi]
theorem set4_other (w : World) (g k : Nat) (hne : k ≠ g) (i : Nat) (a b c d : Value) : ((((w.setCell ⟨g, i * 4, none⟩ a).setCell ⟨g, i * 4 + 1, none⟩ b).setCell ⟨g, i * 4 + 2, none⟩ c).setCell ⟨g, i * 4 + 3, none⟩ d).heap[k]? = w.heap[k]? := by
  rw [Below.heap_setCell _ _ _ k hne, Below.heap_setCell _ _ _ k hne, Below.heap_setCell _ _ _ k hne, Below.heap_setCell _ _ _ k hne]
theorem below_set4 {N : Nat} {w w' : World} (h : Below N w w') {g : Nat} (hg : N ≤ g) (i : Nat) (a b c d : Value) : Below N w ((((w'.setCell ⟨g, i * 4, none⟩ a).setCell ⟨g, i * 4 + 1, none⟩ b).setCell ⟨g, i * 4 + 2, none⟩ c).setCell ⟨g, i * 4 + 3, none⟩ d) :=
  (((h.setCell (p := ⟨g, i * 4, none⟩) hg _).setCell (p := ⟨g, i * 4 + 1, none⟩) hg _).setCell (p := ⟨g, i * 4 + 2, none⟩) hg _).setCell (p := ⟨g, i * 4 + 3, none⟩) hg _
theorem cells4_none (n : Nat) : cells4 (List.replicate n none4) = List.replicate (n * 4) (.int .u64 0) := by
  induction n with
  | zero => rfl
  | succ n ih =>
    rw [List.replicate_succ, cells4, ih, show (n + 1) * 4 = n * 4 + 1 + 1 + 1 + 1 by omega]
    simp [List.replicate_succ, none4]
theorem scells_made (n : Nat) : madeCells #[.int .u64 0, .int .u64 0, .int .u64 0, .int .u64 0] (n * 4) = scells (List.replicate n none4) := by
  unfold scells
  rw [cells4_none]
  apply Array.ext
  · simp [size_madeCells]
  · intro i h1 h2
    have h3 : i % 4 = 0 ∨ i % 4 = 1 ∨ i % 4 = 2 ∨ i % 4 = 3 := by omega
    rcases h3 with h | h | h | h <;> simp [madeCells, h]
theorem make113 (n : Nat) (hn : n ≤ 1000000) (W : World) : (Instr.makeSlice 113 (.int .i64 (n : Int)) (.int .i64 (n : Int))).run Try.prog W = .ok (.slice (some ⟨W.heap.size, 0, none⟩) n n) (W.alloc (.cells (scells (List.replicate n none4)) 25)) := by
  obtain ⟨i0, hi, hz0, hz1, hz2⟩ := info_parts st.info25
  have hr := run_make (P := Try.prog) W 113 25 i0 _ Try.underlying113 hi hz0 .i64 .i64 n n (by omega) (Int.le_refl _) (by rw [hz2]; omega) (by omega)
  simp only [Int.toNat_natCast, hz1] at hr
  rw [hr, ← scells_made]
  rfl
theorem srow_new (W : World) (l : List Q4) : SRow (W.alloc (.cells (scells l) 25)) W.heap.size l := heap_alloc_new W _

def NowIs (n : Nat) : Prop := ∀ b w, w.cell? ⟨b, 0, none⟩ = some (.int .i64 (n : Int)) → Calls Try.prog 60 #[.pointer (some ⟨b, 0, none⟩)] w fun e w' => e = .returned (.slice (some ⟨w.heap.size, 0, none⟩) n n) ∧ w' = w.alloc (.cells (scells (List.replicate n none4)) 25)
set_option maxHeartbeats 1000000 in
theorem now_any (n : Nat) (hn : n ≤ 1000000) : NowIs n := by
  intro b w h0
  have mk := make113 n hn
  go_enter Try.func60, Try.ntmps60
  go_wp2_with (fail)
  go_ret
  exact ⟨rfl, rfl⟩

def TextIs (l : List Q4) (c : Nat) (t : ByteArray) : Prop := ∀ b v w, b < w.heap.size → w.cell? ⟨b, 0, none⟩ = some (.int .i64 (l.length : Int)) → st.Sets w v l → Calls Try.prog 59 #[.pointer (some ⟨b, 0, none⟩), v, .int .u8 c] w fun e w' => e = .returned (.string t) ∧ Below w.heap.size w w'
set_option maxHeartbeats 2000000 in
set_option maxRecDepth 100000 in
theorem text_any (l : List Q4) (hf : ∀ q ∈ l, Fits q) (hlen : l.length ≤ 1000000) (hpos : 1 ≤ l.length) (c : Nat) (hc : c < 256) (t : ByteArray) (ht : t = ⟨(key l c).toArray⟩) : TextIs l c t := by
  intro b v w hb h0 hv
  have HT : Hid (t = ⟨(key l c).toArray⟩) := ht
  clear ht
  rcases hv with ⟨rfl, a, cap, rfl⟩ | ⟨g, off, cap, rfl, hl, hm, hlt, hcell⟩
  · simp at hpos
  · obtain ⟨n, hn⟩ : ∃ n, n = (l.length + 7) / 8 := ⟨_, rfl⟩
    have HE1 : Hid (((l.length : Int) + 8 - 1) / 8 = (n : Int)) := by show _ = _; omega
    have hr0 := st.made_row w n
    obtain ⟨i0, hi0, hz0, hz1, hz2⟩ := info_parts st.info5
    have hB0 : Below w.heap.size w (w.alloc (.cells (madeCells #[.int .u8 0] n) 5)) := (Below.refl _ _).alloc (Nat.le_refl _) _
    have h1 := (hB0.cell (p := ⟨b, 0, none⟩) hb).trans h0
    have hn2 : n ≤ 1000000 := by omega
    have HNN : Hid (n = (l.length + 7) / 8) := hn
    clear hn
    go_enter Try.func59, Try.ntmps59
    go_wp2_with (refine wpList_make_row _ rfl (.tmp 16) (.tmp 16) 84 rfl 5 i0 (.int .u8 0) Try.underlying84 hi0 hz0 hz1 rfl .i64 .i64 n (congrArg (Value.int .i64) HE1.out) (congrArg (Value.int .i64) HE1.out) (by rw [hz2]; omega) (by omega) ?_)
    clear HE1 hi0 hz0 hz1 hz2
    go_loopw [23] (fun x wr => ∃ i : Nat, x = .int .i64 i ∧ i ≤ l.length ∧ st.Row wr w.heap.size (packTo (sig l c) i) ∧ Below w.heap.size w wr) (fun x _ => l.length - (intOf x).toNat)
    case atStart => exact ⟨0, rfl, by omega, by rw [packTo, st.sig_length, ← HNN.out]; exact hr0, hB0⟩
    case round =>
      obtain ⟨i, rfl, hi, hR, hB⟩ := hrel
      have hpl := st.packTo_length (sig l c) i
      rw [st.sig_length, ← HNN.out] at hpl
      by_cases hend : i < l.length
      · obtain ⟨c0, c1, c2, c3⟩ := hcell i hend
        rw [← hB.cell (p := ⟨g, off + i * 4, none⟩) hlt] at c0
        rw [← hB.cell (p := ⟨g, off + i * 4 + 1, none⟩) hlt] at c1
        rw [← hB.cell (p := ⟨g, off + i * 4 + 2, none⟩) hlt] at c2
        rw [← hB.cell (p := ⟨g, off + i * 4 + 3, none⟩) hlt] at c3
        have hfx := hf _ (st.nth_mem l i hend)
        by_cases hh : has (nth l i) c = true
        · have hp := st.has_any (nth l i) hfx c hc true hh.symm
          obtain ⟨k, hk⟩ : ∃ k, k = i / 8 := ⟨_, rfl⟩
          obtain ⟨m, hm8⟩ : ∃ m, m = i % 8 := ⟨_, rfl⟩
          have e2 : ((i : Int) / 8) = (k : Int) := by omega
          have e3 : ((i : Int) % 8) = (m : Int) := by omega
          obtain ⟨y, hy⟩ : ∃ y, y = (packTo (sig l c) i).getD k 0 := ⟨_, rfl⟩
          have hy2 : y < 256 := by rw [hy]; exact st.getD_lt_256 _ (st.packTo_lt _ _) _
          have e4 := st.bit8_or y m hy2 (by omega)
          have hkn : k < n := by have := HNN.out; omega
          have HP : Hid (packTo (sig l c) (i + 1) = (packTo (sig l c) i).set k (y ||| 2 ^ m)) := by show _ = _; rw [st.pack_in hend hh, hy, hk, hm8]
          have HC : Hid (∀ W, st.Row W w.heap.size (packTo (sig l c) i) → W.cell? ⟨w.heap.size, k, none⟩ = some (.int .u8 (y : Nat))) := fun W hW => by rw [hW.cell k (by omega), hy]
          generalize nth l i = x at *
          clear hcell hh hk hm8 hy hpl
          go_wp2_with (go_at_call 56; refine (hp _).mono ?_; rintro e w1 ⟨rfl, b1⟩; have hR3 := hR.later b1; have hB3 := chain hB b1; have kc := HC.out _ hR3; have kf := hR3.fz k)
          go_region
          all_goals go_wp2
          all_goals exact ⟨⟨i + 1, by go_num, by omega, by rw [HP.out]; exact hR3.put k _, (hB3.setCell (p := ⟨w.heap.size, k, none⟩) (Nat.le_refl _) _).drew⟩, by simp [intOf]; omega⟩
        · have hfl : has (nth l i) c = false := by simpa using hh
          have hp := st.has_any (nth l i) hfx c hc false hfl.symm
          have HP : Hid (packTo (sig l c) (i + 1) = packTo (sig l c) i) := st.pack_out hend hfl
          generalize nth l i = x at *
          clear hcell hh hfl
          go_wp2_with (go_at_call 56; refine (hp _).mono ?_; rintro e w1 ⟨rfl, b1⟩; have hR3 := hR.later b1; have hB3 := chain hB b1)
          go_roundw
          case rel => exact ⟨i + 1, by go_num, by omega, by rw [HP.out]; exact hR3, hB3⟩
          case measure => simp [intOf]; omega
      · have he : i = l.length := by omega
        have htx := hR.text (st.packTo_lt _ _)
        rw [hpl] at htx
        have HE : Hid (t = ⟨((packTo (sig l c) i).map UInt8.ofNat).toArray⟩) := by show _ = _; rw [HT.out, he]; rfl
        clear HT hcell
        go_wp2
        go_ret
        exact ⟨by rw [HE.out, he]; rfl, hB⟩
end Go.Proofs.Ytfilndgbgdnpiaa.bd

namespace Go.Proofs.Ytfilndgbgdnpiaa.bd
open Go.Sort Go.ChangeShapes Go.WideShapes Go.ChangeAt Go.RowKit Go.Maps
open st (Q4 none4 Fits has key sig packTo nth cells4 chain)
set_option linter.unusedVariables false
set_option maxRecDepth 10000

theorem owns_later {W W' : World} {B : Nat} {v : Value} {l : List Int} (h : df.Owns W B v l) (b : Below W.heap.size W W') : df.Owns W' B v l := by
  refine ⟨h.1, ?_⟩
  rcases h.2 with h0 | ⟨g, cap, cur, rfl, hb, hg, hr⟩
  · exact .inl h0
  · exact .inr ⟨g, cap, cur, rfl, hb, (b.block g (Array.getElem?_eq_some_iff.1 hg).1).trans hg, hr⟩
theorem bit8_and (x m : Nat) (hx : x < 256) : (bits .and .u8 ((x : Int) / 2 ^ m) 1 == 1) = x.testBit m := by
  have h1 : ((x : Int) / 2 ^ m) = ((x / 2 ^ m : Nat) : Int) := by simp
  have h2 := u8_and_nat (x / 2 ^ m) 1 (Nat.lt_of_le_of_lt (Nat.div_le_self _ _) hx) (by omega)
  rw [h1, show ((1 : Nat) : Int) = (1 : Int) from rfl] at *
  rw [h2, Nat.and_one_is_mod, Nat.testBit_eq_decide_div_mod_eq]
  generalize x / 2 ^ m = y
  by_cases h : y % 2 = 1
  · rw [h]; rfl
  · have : y % 2 = 0 := by omega
    rw [this]; rfl
theorem hasT_any (t : ByteArray) (i k m : Nat) (hk : i / 8 = k) (hm : i % 8 = m) (hkt : k < t.size) (hi : i ≤ 1000000) (r : Bool) (hr : r = (t[k].toNat).testBit m) (w : World) : Calls Try.prog 82 #[.string t, .int .i64 (i : Int)] w fun e w' => e = .returned (.bool r) ∧ w' = w := by
  have e2 : ((i : Int) / 8) = (k : Int) := by omega
  have e3 : ((i : Int) % 8) = (m : Int) := by omega
  have hm8 : m < 8 := by omega
  have HB : Hid ((bits BinOp.and IntKind.u8 (↑t[k].toNat / 2 ^ m) 1 == 1) = r) := by show _ = _; rw [hr]; exact bit8_and _ m (UInt8.toNat_lt _)
  clear hk hm hr
  go_enter Try.func82, Try.ntmps82
  go_wp2_with (fail)
  go_ret
  exact ⟨by rw [← HB.out]; rfl, rfl⟩

/-! the text of a set -/
def txt (σ : List Bool) : List UInt8 := (packTo σ σ.length).map UInt8.ofNat
def txtB (σ : List Bool) : ByteArray := ⟨(txt σ).toArray⟩
theorem key_txt (l : List Q4) (c : Nat) : (⟨(key l c).toArray⟩ : ByteArray) = txtB (sig l c) := by
  unfold txtB txt key
  rw [st.sig_length]
theorem txt_len (σ : List Bool) : (txt σ).length = (σ.length + 7) / 8 := by unfold txt; rw [List.length_map, st.packTo_length]
theorem txtB_size (σ : List Bool) : (txtB σ).size = (σ.length + 7) / 8 := by
  show (txt σ).toArray.size = _
  rw [List.size_toArray, txt_len]
theorem txtB_data (σ : List Bool) : (txtB σ).data.toList = txt σ := by simp [txtB]
theorem txt_bit (σ : List Bool) (i : Nat) (hi : i < σ.length) (h : i / 8 < (txtB σ).size) : ((txtB σ)[i / 8].toNat).testBit (i % 8) = σ[i] := by
  have hl := st.packTo_length σ σ.length
  have h2 : i / 8 < (packTo σ σ.length).length := by rw [hl]; omega
  have h1 := st.packTo_bit σ σ.length (Nat.le_refl _) i hi
  have e : (txtB σ)[i / 8].toNat = (packTo σ σ.length).getD (i / 8) 0 := by
    show ((txt σ).toArray[i / 8]'_).toNat = _
    have h3 := st.packTo_lt σ σ.length _ (List.getElem_mem h2)
    simp [txt, h2, Nat.mod_eq_of_lt h3]
  rw [e, h1]
  simp [hi]
theorem txt_inj {σ τ : List Bool} (hl : σ.length = τ.length) (h : txt σ = txt τ) : σ = τ := by
  refine st.pack_inj hl (List.ext_getElem (by rw [st.packTo_length, st.packTo_length, hl]) fun i h1 h2 => ?_)
  have e := congrArg (fun l => l[i]?) h
  simp only [txt, List.getElem?_map, List.getElem?_eq_getElem h1, List.getElem?_eq_getElem h2, Option.map_some, Option.some.injEq] at e
  have a1 := st.packTo_lt σ σ.length _ (List.getElem_mem h1)
  have a2 := st.packTo_lt τ τ.length _ (List.getElem_mem h2)
  have := congrArg UInt8.toNat e
  simpa [Nat.mod_eq_of_lt a1, Nat.mod_eq_of_lt a2] using this
def HasTIs (σ : List Bool) (i : Nat) (r : Bool) : Prop := ∀ w, Calls Try.prog 82 #[.string (txtB σ), .int .i64 (i : Int)] w fun e w' => e = .returned (.bool r) ∧ w' = w
theorem has_txt (σ : List Bool) (hl : σ.length ≤ 1000000) (i : Nat) (hi : i < σ.length) (r : Bool) (hr : r = σ[i]) : HasTIs σ i r := fun w => by
  have h : i / 8 < (txtB σ).size := by rw [txtB_size]; omega
  exact hasT_any (txtB σ) i (i / 8) (i % 8) rfl rfl h (by omega) r (by rw [hr]; exact (txt_bit σ i hi h).symm) w

/-- the states of a set, rising -/
def onTo (σ : List Bool) (i : Nat) : List Int := ((List.range i).filter fun j => σ.getD j false).map fun j : Nat => (j : Int)
theorem onTo_yes (σ : List Bool) (i : Nat) (hi : i < σ.length) (h : σ[i] = true) : onTo σ (i + 1) = onTo σ i ++ [(i : Int)] := by
  unfold onTo
  rw [List.range_succ, List.filter_append]
  simp [List.getD_eq_getElem?_getD, hi, h]
theorem onTo_no (σ : List Bool) (i : Nat) (hi : i < σ.length) (h : σ[i] = false) : onTo σ (i + 1) = onTo σ i := by
  unfold onTo
  rw [List.range_succ, List.filter_append]
  simp [List.getD_eq_getElem?_getD, hi, h]
theorem onTo_len (σ : List Bool) (i : Nat) : (onTo σ i).length ≤ i := by
  unfold onTo
  rw [List.length_map]
  exact Nat.le_trans (List.length_filter_le _ _) (by simp)
theorem mem_onTo (σ : List Bool) (t : Int) : t ∈ onTo σ σ.length ↔ ∃ i : Nat, t = (i : Int) ∧ σ[i]? = some true := by
  unfold onTo
  simp only [List.mem_map, List.mem_filter, List.mem_range]
  constructor
  · rintro ⟨i, ⟨h1, h2⟩, rfl⟩
    refine ⟨i, rfl, ?_⟩
    rw [List.getD_eq_getElem?_getD, List.getElem?_eq_getElem h1] at h2
    rw [List.getElem?_eq_getElem h1]
    simpa using h2
  · rintro ⟨i, rfl, h⟩
    have h1 := (List.getElem?_eq_some_iff.1 h).1
    exact ⟨i, ⟨h1, by rw [List.getD_eq_getElem?_getD, h]; rfl⟩, rfl⟩
def StatesIs (σ : List Bool) : Prop := ∀ b w, b < w.heap.size → w.cell? ⟨b, 0, none⟩ = some (.int .i64 (σ.length : Int)) → Calls Try.prog 81 #[.pointer (some ⟨b, 0, none⟩), .string (txtB σ)] w fun e w' => ∃ v, e = .returned v ∧ df.Owns w' w.heap.size v (onTo σ σ.length) ∧ Below w.heap.size w w'
set_option maxHeartbeats 1000000 in
set_option maxRecDepth 100000 in
theorem states_any (σ : List Bool) (hl : σ.length ≤ 1000000) : StatesIs σ := by
  intro b w hb h0
  have hasT : ∀ (i : Nat) (hi : i < σ.length) (r : Bool), r = σ[i] → HasTIs σ i r := fun i hi r hr => has_txt σ hl i hi r hr
  unfold HasTIs at hasT
  generalize txtB σ = t at *
  have ho0 : df.Owns w w.heap.size (.slice none 0 0) (onTo σ 0) := ⟨by simp [onTo], .inl ⟨rfl, rfl⟩⟩
  go_enter Try.func81, Try.ntmps81
  go_wp2_with (fail)
  go_loopw [5, 12] (fun y x wr => ∃ (i : Nat) (gy : Option Addr) (cy : Nat), y = .slice gy (onTo σ i).length cy ∧ x = .int .i64 i ∧ i ≤ σ.length ∧ df.Owns wr w.heap.size (.slice gy (onTo σ i).length cy) (onTo σ i) ∧ Below w.heap.size w wr) (fun _ x _ => σ.length - (intOf x).toNat)
  case atStart => exact ⟨0, none, 0, rfl, rfl, by omega, ho0, Below.refl _ _⟩
  case round =>
    obtain ⟨i, gy, cy, rfl, rfl, hi, ho, hB⟩ := hrel
    clear ho0
    by_cases hend : i < σ.length
    · cases hs : σ[i] with
      | true =>
        have h76 := hasT i hend true hs.symm
        have HN : Hid (onTo σ (i + 1) = onTo σ i ++ [(i : Int)]) := onTo_yes σ i hend hs
        have hln := onTo_len σ i
        have HO : Hid (df.Owns wr w.heap.size (.slice gy (onTo σ i).length cy) (onTo σ i)) := ho
        have HB : Hid (Below w.heap.size w wr) := hB
        have hsz := hB.size
        clear hasT hs ho hB
        go_wp2_with (first | (go_at_call 82; refine (h76 _).mono ?_; rintro e w1 ⟨rfl, rfl⟩) | (at_builtin; refine nf.wpList_append_at rfl (.tmp 18) (.tmp 20) rfl w.heap.size _ (onTo σ i) (i : Int) _ rfl rfl (owns_later HO.out (nf.below_alloc _ _)) (nf.tmp_cell _ _ _ rfl) (by omega) (by simp; omega) ?_; intro g' cap' w2 hown2 hgr2 hw2))
        go_roundw
        case rel => exact ⟨i + 1, some ⟨g', 0, none⟩, cap', by rw [HN.out]; simp, by go_num, by omega, by rw [HN.out]; simpa using hown2, (HB.out.alloc hsz _).grown hgr2 (by simp; omega) (df.own_ge HO.out)⟩
        case measure => simp [intOf]; omega
      | false =>
        have h76 := hasT i hend false hs.symm
        have HN : Hid (onTo σ (i + 1) = onTo σ i) := onTo_no σ i hend hs
        clear hasT hs
        go_wp2_with (go_at_call 82; refine (h76 _).mono ?_; rintro e w1 ⟨rfl, rfl⟩)
        go_roundw
        case rel => exact ⟨i + 1, gy, cy, by rw [HN.out], by go_num, by omega, by rw [HN.out]; exact ho, hB⟩
        case measure => simp [intOf]; omega
    · have he : i = σ.length := by omega
      subst he
      clear hasT
      go_wp2_with (fail)
      go_ret
      exact ⟨_, rfl, ho, hB⟩
end Go.Proofs.Ytfilndgbgdnpiaa.bd
