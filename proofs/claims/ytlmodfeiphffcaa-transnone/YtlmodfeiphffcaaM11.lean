/-
  Texts put together: Over this program: bytes of which a stretch behind them may be marked (what a conversion of a text makes), and appends to them. Over this program: appends to bytes that may have a mark behind them.
-/
import Derived.Test.YtlmodfeiphffcaaM10
namespace Go.Proofs.Ytlmodfeiphffcaa.wr
open Go.ChangeShapes Go.WideShapes Go.ChangeAt Go.RowKit Go.Shelf Go.Maps
open tr
set_option linter.unusedVariables false

/-- a mark that touches none of the cells -/
def Off (fz : Nat × Nat) (n : Nat) : Prop := fz = (0, 0) ∨ n ≤ fz.1
theorem Off.free {W : World} {g : Nat} {cur : Array Value} {T : TypeId} {fz : Nat × Nat} (h : Off fz cur.size) (hg : W.heap[g]? = some (.cells cur T fz)) {k : Nat} (hk : k < cur.size) : W.frozen? ⟨g, k, none⟩ = false := by
  unfold World.frozen?
  simp only [hg]
  rcases h with rfl | h
  · simp
  · have : ¬ fz.1 ≤ k := by omega
    simp [this]
/-- cells laid one behind the other into a row whose mark does not touch them -/
theorem lay_cells {g o : Nat} {T : TypeId} {fz : Nat × Nat} (us : List Value) : ∀ (i : Nat) (cur : Array Value) (W : World), W.heap[g]? = some (.cells cur T fz) → Off fz cur.size → o + i + us.length ≤ cur.size → (∀ u ∈ us, u.oneCell' = true) →
    (storeCells ⟨g, o, none⟩ us i).run Try.prog W = .ok () (W.setRow g (cur.toList.take (o + i) ++ us ++ cur.toList.drop (o + i + us.length)).toArray) := by
  induction us with
  | nil =>
    intro i cur W hg hf hl h1
    have := setRow_self W g cur T fz hg
    simp [storeCells, this]
  | cons u us ih =>
    intro i cur W hg hf hl h1
    rw [List.length_cons] at hl
    have hi : o + i < cur.size := by omega
    have hadd : (⟨g, o, none⟩ : Addr).add i = ⟨g, o + i, none⟩ := by unfold Addr.add; split <;> simp_all
    have hc : W.cell? ⟨g, o + i, none⟩ = some cur[o + i] := by simp [World.cell?, hg, hi]
    have hst : (store ((⟨g, o, none⟩ : Addr).add i) u).run Try.prog W = .ok () (W.setRow g (cur.setIfInBounds (o + i) u)) := by
      rw [hadd, run_store Try.prog W _ u _ (h1 u (List.mem_cons_self ..)), hc]
      simp [hf.free hg hi, setCell_eq_setRow W g (o + i) cur T fz u hg]
    have h2 := ih (i + 1) (cur.setIfInBounds (o + i) u) (W.setRow g (cur.setIfInBounds (o + i) u)) (setRow_heap W g cur _ T _ hg) (by simpa using hf) (by simp; omega) (fun x hx => h1 x (List.mem_cons_of_mem _ hx))
    have e := list_seg_step cur.toList (o + i) u us (by simp; omega)
    simp only [storeCells, Sem.run_bind, hst, Result.andThen_ok, h2, setRow_setRow]
    congr 3
    simpa [Array.toList_setIfInBounds, Nat.add_assoc] using e
/-- bytes: f tells whether there may be a mark behind them -/
def BufG (f : Bool) (B : Nat) (v : Value) (xs : List UInt8) (W : World) : Prop := B ≤ W.heap.size ∧ ((v = .slice none 0 0 ∧ xs = []) ∨
  ∃ g cap cur fz, v = .slice (some ⟨g, 0, none⟩) xs.length cap ∧ B ≤ g ∧ W.heap[g]? = some (.cells cur 5 fz) ∧ Off fz cap ∧ (f = false → fz = (0, 0)) ∧ xs.length ≤ cap ∧ cap ≤ maxLen ∧ cur.size = cap ∧ cur.toList.take xs.length = Lib.byteCells xs)
theorem BufG.of {B : Nat} {v : Value} {xs : List UInt8} {W : World} (h : Buf B v xs W) : BufG false B v xs W := by
  refine ⟨h.2, ?_⟩
  rcases h.1.2 with ⟨e, h0⟩ | ⟨g, cap, cur, e, hb, hg, h1, h2, h3, h4⟩
  · exact .inl ⟨e, List.length_eq_zero_iff.1 h0⟩
  · exact .inr ⟨g, cap, cur, (0, 0), e, hb, hg, .inl rfl, fun _ => rfl, h1, h2, by simpa using h3, by simpa using h4⟩
theorem BufG.buf {B : Nat} {v : Value} {xs : List UInt8} {W : World} (h : BufG false B v xs W) : Buf B v xs W := by
  refine ⟨⟨by simp [Lib.byteCells], ?_⟩, h.1⟩
  rcases h.2 with ⟨e, h0⟩ | ⟨g, cap, cur, fz, e, hb, hg, _, hf, h1, h2, h3, h4⟩
  · exact .inl ⟨e, by rw [h0]; rfl⟩
  · obtain rfl := hf rfl
    exact .inr ⟨g, cap, cur, e, hb, hg, h1, h2, by simpa using h3, by simpa using h4⟩
theorem BufG.ofX {B : Nat} {v : Value} {xs : List UInt8} {W : World} (h : BufX B v xs W) (hB : B ≤ W.heap.size) : BufG true B v xs W := by
  obtain ⟨g, cap, cur, fz, e, hb, hg, ho, h1, h2, h3, h4⟩ := h
  exact ⟨hB, .inr ⟨g, cap, cur, fz, e, hb, hg, ho, fun e => (by cases e), h1, h2, h3, h4⟩⟩
section
variable {f : Bool} {B : Nat} {v : Value} {xs : List UInt8} {W W' : World}
theorem BufG.lt (h : BufG f B v xs W) {g : Nat} (e : v.ownBlock = some g) : B ≤ g ∧ g < W.heap.size := by
  rcases h.2 with ⟨rfl, _⟩ | ⟨g', cap, cur, fz, rfl, hb, hg, _⟩
  · cases e
  · cases e
    exact ⟨hb, (Array.getElem?_eq_some_iff.1 hg).1⟩
theorem BufG.keep (h : BufG f B v xs W) (hB : B ≤ W'.heap.size) (hh : ∀ g, v.ownBlock = some g → W'.heap[g]? = W.heap[g]?) : BufG f B v xs W' := by
  refine ⟨hB, ?_⟩
  rcases h.2 with e | ⟨g, cap, cur, fz, rfl, hb, hg, r⟩
  · exact .inl e
  · exact .inr ⟨g, cap, cur, fz, rfl, hb, (hh g rfl).trans hg, r⟩
theorem BufG.later (h : BufG f B v xs W) (c : Below W.heap.size W W') : BufG f B v xs W' := h.keep (Nat.le_trans h.1 c.size) fun g e => c.block g (h.lt e).2
theorem BufG.type (h : BufG f B v xs W) {g : Nat} {cs : Array Value} {T : TypeId} {fr : Nat × Nat} (hg : W.heap[g]? = some (.cells cs T fr)) (hT : T ≠ 5) : some g ≠ v.ownBlock := by
  intro e
  rcases h.2 with ⟨rfl, _⟩ | ⟨g', cap, cur, fz, rfl, hb, hg', _⟩
  · cases e
  · cases e
    rw [hg] at hg'
    cases hg'
    exact hT rfl
theorem BufG.kind (h : BufG f B v xs W) {g : Nat} {es : Array MapEntry} {c : Nat} (hg : W.heap[g]? = some (.map es c)) : some g ≠ v.ownBlock := by
  intro e
  rcases h.2 with ⟨rfl, _⟩ | ⟨g', cap, cur, fz, rfl, hb, hg', _⟩
  · cases e
  · cases e
    rw [hg] at hg'
    cases hg'
theorem BufG.form (h : BufG f B v xs W) : ∃ g cap, v = .slice g xs.length cap ∧ xs.length ≤ cap ∧ cap ≤ 9223372036854775807 := by
  rcases h.2 with ⟨rfl, rfl⟩ | ⟨g, cap, cur, fz, rfl, hb, hg, _, _, h1, h2, _⟩
  · exact ⟨_, _, rfl, Nat.le_refl _, by omega⟩
  · exact ⟨_, _, rfl, h1, by unfold maxLen at h2; omega⟩
end
end Go.Proofs.Ytlmodfeiphffcaa.wr

namespace Go.Proofs.Ytlmodfeiphffcaa.wr
open Go.ChangeShapes Go.WideShapes Go.ChangeAt Go.RowKit Go.Shelf Go.Maps
open tr
set_option linter.unusedVariables false

theorem BufG.any {f : Bool} {B : Nat} {v : Value} {xs : List UInt8} {W : World} (h : BufG false B v xs W) : BufG f B v xs W := by
  refine ⟨h.1, ?_⟩
  rcases h.2 with e | ⟨g, cap, cur, fz, e, hb, hg, ho, hf, r⟩
  · exact .inl e
  · exact .inr ⟨g, cap, cur, fz, e, hb, hg, ho, fun _ => hf rfl, r⟩
/-- either there is no mark, or this is how it lies -/
theorem BufG.cases {f : Bool} {B : Nat} {v : Value} {xs : List UInt8} {W : World} (h : BufG f B v xs W) : Buf B v xs W ∨ (f = true ∧ ∃ g cap cur fz, v = .slice (some ⟨g, 0, none⟩) xs.length cap ∧ B ≤ g ∧ W.heap[g]? = some (.cells cur 5 fz) ∧ Off fz cap ∧ xs.length ≤ cap ∧ cap ≤ maxLen ∧ cur.size = cap ∧ cur.toList.take xs.length = Lib.byteCells xs) := by
  rcases h.2 with ⟨rfl, rfl⟩ | ⟨g, cap, cur, fz, e, hb, hg, ho, hf, h1, h2, h3, h4⟩
  · exact .inl ⟨ow.nil W B 5 1, h.1⟩
  · cases f with
    | true => exact .inr ⟨rfl, g, cap, cur, fz, e, hb, hg, ho, h1, h2, h3, h4⟩
    | false => exact .inl h.buf
section
variable {B : Nat} {xs ys : List UInt8} {W : World} {g cap : Nat} {cur : Array Value} {fz : Nat × Nat}
/-- there is room -/
theorem room_bufG (hB : B ≤ W.heap.size) (hb : B ≤ g) (hg : W.heap[g]? = some (.cells cur 5 fz)) (ho : Off fz cap) (hc : cap ≤ maxLen) (h3 : cur.size = cap) (h4 : cur.toList.take xs.length = Lib.byteCells xs) (hr : xs.length + ys.length ≤ cap) :
    BufG true B (.slice (some ⟨g, 0, none⟩) (xs.length + ys.length) cap) (xs ++ ys) (W.setRow g (cur.toList.take xs.length ++ Lib.byteCells ys ++ cur.toList.drop (xs.length + ys.length)).toArray) ∧ Gr W (.slice (some ⟨g, 0, none⟩) xs.length cap) (W.setRow g (cur.toList.take xs.length ++ Lib.byteCells ys ++ cur.toList.drop (xs.length + ys.length)).toArray) (.slice (some ⟨g, 0, none⟩) (xs.length + ys.length) cap) := by
  have hl : ∀ l : List UInt8, (Lib.byteCells l).length = l.length := fun l => by simp [Lib.byteCells]
  refine ⟨⟨by simpa using hB, .inr ⟨g, cap, _, fz, by rw [List.length_append], hb, setRow_heap W g cur _ 5 fz hg, ho, fun e => (by cases e), by rw [List.length_append]; exact hr, hc, ?_, ?_⟩⟩, ⟨rfl, rfl, rfl, by simp, fun k _ hk => setRow_other W g k _ (fun e => hk (by simp [Value.ownBlock, e]))⟩, .inl rfl⟩
  · simp only [List.size_toArray, List.length_append, List.length_take, List.length_drop, Array.length_toList, hl]
    omega
  · rw [h4, Lib.byteCells_append]
    have e : (Lib.byteCells xs ++ Lib.byteCells ys).length = (xs ++ ys).length := by rw [List.length_append, List.length_append, hl, hl]
    rw [← e]
    exact List.take_left
/-- a new row -/
theorem grow_bufG (hB : B ≤ W.heap.size) (old : Nat) (hm : xs.length + ys.length ≤ 1000000) {f : Bool} {v : Value} :
    BufG f B (.slice (some ⟨W.heap.size, 0, none⟩) (xs.length + ys.length) (grownCap W (xs.length + ys.length) old 5)) (xs ++ ys) (W.drew.alloc (.cells ((Lib.byteCells xs).toArray ++ (Lib.byteCells ys).toArray ++ Builtin.zeroCells (Value.int .u8 0).cells (grownCap W (xs.length + ys.length) old 5 - (xs.length + ys.length))) 5)) ∧ Gr W v (W.drew.alloc (.cells ((Lib.byteCells xs).toArray ++ (Lib.byteCells ys).toArray ++ Builtin.zeroCells (Value.int .u8 0).cells (grownCap W (xs.length + ys.length) old 5 - (xs.length + ys.length))) 5)) (.slice (some ⟨W.heap.size, 0, none⟩) (xs.length + ys.length) (grownCap W (xs.length + ys.length) old 5)) := by
  have hl : ∀ l : List UInt8, (Lib.byteCells l).length = l.length := fun l => by simp [Lib.byteCells]
  have hge := grownCap_ge W (xs.length + ys.length) old 5
  have hcm := grownCap_le_maxLen W (xs.length + ys.length) old 5 (by unfold maxLen; omega)
  refine ⟨⟨Nat.le_trans hB (by simp), .inr ⟨W.heap.size, _, _, (0, 0), by rw [List.length_append], hB, heap_alloc_new W.drew _, .inl rfl, fun _ => rfl, by rw [List.length_append]; exact hge, hcm, ?_, ?_⟩⟩, ⟨rfl, rfl, rfl, by simp, fun k hk _ => heap_alloc_old W.drew _ hk⟩, .inr fun g' hg' => ?_⟩
  · have hz1 : (Value.int IntKind.u8 0).cells.size = 1 := rfl
    simp only [Array.size_append, List.size_toArray, size_zeroCells, hz1, hl]
    omega
  · have e : (Lib.byteCells xs ++ Lib.byteCells ys).length = (xs ++ ys).length := by rw [List.length_append, List.length_append, hl, hl]
    rw [Lib.byteCells_append]
    simp only [Array.toList_append]
    rw [← e]
    exact List.take_left
  · simp [Value.ownBlock] at hg'
    omega
end
/-- 'append(out, text...)' -/
theorem BufG.run_text {f : Bool} {B : Nat} {v : Value} {xs : List UInt8} {W : World} (h : BufG f B v xs W) (s : ByteArray) (hlen : xs.length + s.size ≤ 1000000) (ty : TypeId) :
    ∃ v' W', (Builtin.append_ #[51, 9] ty #[v, .string s]).run Try.prog W = .ok v' W' ∧ BufG f B v' (xs ++ s.data.toList) W' ∧ Gr W v W' v' := by
  rcases h.cases with hb | ⟨rfl, g, cap, cur, fz, rfl, hb, hg, ho, h1, h2, h3, h4⟩
  · obtain ⟨v', W', a1, a2, a3⟩ := hb.run_text2 s (by omega) ty
    exact ⟨v', W', a1, (BufG.of a2).any, a3⟩
  · obtain ⟨i0, hi0, hz0, hz1, hz2⟩ := info_parts info5
    have hl := list_len s
    by_cases hroom : xs.length + s.size ≤ cap
    · have hf := Lib.run_firstCells_string (P := Try.prog) W 1 s
      have hst := lay_cells (o := xs.length) (Lib.strCells s) 0 cur W hg (by rw [h3]; exact ho) (by rw [Lib.strCells_length]; omega) (Lib.strCells_oneCell s)
      simp only [Nat.add_zero, Lib.strCells_length] at hst
      have hr : (Builtin.append_ #[51, 9] ty #[.slice (some ⟨g, 0, none⟩) xs.length cap, .string s]).run Try.prog W = .ok (.slice (some ⟨g, 0, none⟩) (xs.length + s.size) cap) (W.setRow g (cur.toList.take xs.length ++ Lib.strCells s ++ cur.toList.drop (xs.length + s.size)).toArray) := by
        simp [Builtin.append_, run_underlying Try.underlying51, run_underlying Try.underlying9, sizeOf, typeInfo, hi0, hz1, Builtin.lenOf, hroom, hf, Addr.add_lit, hst]
      obtain ⟨k1, k2⟩ := room_bufG (ys := s.data.toList) h.1 hb hg ho h2 h3 h4 (by omega)
      rw [hl] at k1 k2
      exact ⟨_, _, hr, k1, k2⟩
    · have holds : ∀ j u, (Lib.byteCells xs)[j]? = some u → W.cell? ((⟨g, 0, none⟩ : Addr).add j) = some u := fun j u hu => by
        have hj := (List.getElem?_eq_some_iff.1 hu).1
        have hadd : (⟨g, 0, none⟩ : Addr).add j = ⟨g, j, none⟩ := by unfold Addr.add; simp; omega
        rw [hadd, Lib.cell_of_heap hg]
        rw [← h4] at hu hj
        simp at hj
        rw [List.getElem?_take_of_lt (by omega)] at hu
        simpa using hu
      have hr := Lib.run_append_grow_string (P := Try.prog) W 51 9 ty 5 i0 (.int .u8 0) Try.underlying51 Try.underlying9 hi0 hz0 ⟨g, 0, none⟩ xs.length cap (Lib.byteCells xs) (by rw [hz1]; simp [Lib.byteCells]) holds s (by omega) (by omega) (by rw [hz2]; exact growslice_fits (by omega) (by omega))
      obtain ⟨k1, k2⟩ := grow_bufG (xs := xs) (ys := s.data.toList) (f := true) (v := .slice (some ⟨g, 0, none⟩) xs.length cap) h.1 cap (by omega)
      rw [hl] at k1 k2
      exact ⟨_, _, hr, k1, k2⟩
/-- 'append(out, b)' -/
theorem BufG.run_byte {f : Bool} {B : Nat} {v : Value} {xs : List UInt8} {W : World} (h : BufG f B v xs W) (b : UInt8) (hlen : xs.length ≤ 900000) (ty : TypeId) :
    ∃ v' W', (Builtin.append_ #[51, 51] ty #[v, .slice (some ⟨W.heap.size, 0, none⟩) 1 1]).run Try.prog (W.alloc (.cells #[.int .u8 (b.toNat : Int)] 5)) = .ok v' W' ∧ BufG f B v' (xs ++ [b]) W' ∧ Gr W v W' v' := by
  have ba := below_alloc W (.cells #[.int .u8 (b.toNat : Int)] 5)
  have hnew := ow.new1 W (.int .u8 (b.toNat : Int)) 5
  have hA := h.later ba
  generalize W.alloc (.cells #[.int .u8 (b.toNat : Int)] 5) = V at *
  rcases hA.cases with hb | ⟨rfl, g, cap, cur, fz, rfl, hb, hg, ho, h1, h2, h3, h4⟩
  · obtain ⟨g', cap', W', a1, a2, a3, a4⟩ := ow.append_any V 51 ty 5 (.int .u8 0) 1 1 Try.underlying51 info5 rfl (by decide) (by decide) B v xs.length (Lib.byteCells xs) hb.1 W.heap.size [.int .u8 (b.toNat : Int)] rfl hnew (ow.one1 _ rfl) (by omega) hb.2
    refine ⟨_, W', a1, (BufG.of ⟨?_, Nat.le_trans hb.2 a3.size⟩).any, Gr.ahead ba ⟨a3, ?_⟩⟩
    · rw [byteCells_one, List.length_append]
      exact a2
    · rcases a4 with e | e
      · exact .inl e
      · exact .inr fun g hg => by
          simp [Value.ownBlock] at hg
          omega
  · obtain ⟨i0, hi0, hz0, hz1, hz2⟩ := info_parts info5
    have hl2 : [Value.int .u8 (b.toNat : Int)].length = 1 * i0.size := by rw [hz1]; rfl
    by_cases hroom : xs.length + 1 ≤ cap
    · have hf := run_firstCells_some (P := Try.prog) V i0.size 1 ⟨W.heap.size, 0, none⟩ 1 1 [.int .u8 (b.toNat : Int)] hl2 hnew
      have hst := lay_cells (o := xs.length) [.int .u8 (b.toNat : Int)] 0 cur V hg (by rw [h3]; exact ho) (by simp; omega) (ow.one1 _ rfl)
      simp only [Nat.add_zero] at hst
      rw [hz1] at hf
      have hr : (Builtin.append_ #[51, 51] ty #[.slice (some ⟨g, 0, none⟩) xs.length cap, .slice (some ⟨W.heap.size, 0, none⟩) 1 1]).run Try.prog V = .ok (.slice (some ⟨g, 0, none⟩) (xs.length + 1) cap) (V.setRow g (cur.toList.take xs.length ++ [Value.int .u8 (b.toNat : Int)] ++ cur.toList.drop (xs.length + 1)).toArray) := by
        simp [Builtin.append_, run_underlying Try.underlying51, sizeOf, typeInfo, hi0, hz1, Builtin.lenOf, hroom, hf, Addr.add_lit]
        simp at hst
        rw [hst]
        rfl
      obtain ⟨k1, k2⟩ := room_bufG (xs := xs) (ys := [b]) hA.1 hb hg ho h2 h3 h4 (by simpa using hroom)
      exact ⟨_, _, hr, k1, Gr.ahead ba k2⟩
    · have holds : ∀ j u, (Lib.byteCells xs)[j]? = some u → V.cell? ((⟨g, 0, none⟩ : Addr).add j) = some u := fun j u hu => by
        have hj := (List.getElem?_eq_some_iff.1 hu).1
        have hadd : (⟨g, 0, none⟩ : Addr).add j = ⟨g, j, none⟩ := by unfold Addr.add; simp; omega
        rw [hadd, Lib.cell_of_heap hg]
        rw [← h4] at hu hj
        simp at hj
        rw [List.getElem?_take_of_lt (by omega)] at hu
        simpa using hu
      have hr := run_append_grow (P := Try.prog) V 51 ty 5 i0 (.int .u8 0) Try.underlying51 hi0 hz0 ⟨g, 0, none⟩ xs.length cap (Lib.byteCells xs) (by rw [hz1]; simp [Lib.byteCells]) holds ⟨W.heap.size, 0, none⟩ 1 1 [.int .u8 (b.toNat : Int)] hl2 hnew (by omega) (by omega) (by rw [hz2]; exact growslice_fits (by omega) (by omega))
      obtain ⟨k1, k2⟩ := grow_bufG (xs := xs) (ys := [b]) (f := true) (v := .slice (some ⟨g, 0, none⟩) xs.length cap) hA.1 cap (by simp; omega)
      exact ⟨_, _, hr, k1, Gr.ahead ba k2⟩
end Go.Proofs.Ytlmodfeiphffcaa.wr
