/-
  Texts put together: Plain: what becomes of a text that waits, byte by byte; how long it gets. Contracts over this program: what becomes of a text that waits for what does not come (rewriter.fall).
-/
import Derived.Test.YtlmodfeiphffcaaM12
namespace Go.Proofs.Ytlmodfeiphffcaa.ru.rw
set_option linter.unusedVariables false

def fo (l : List Ru) (w : List UInt8) (i : Nat) : List UInt8 × List UInt8 := fold l ((first l w).1, []) ((first l w).2.take i)
theorem fo_zero (l : List Ru) (w : List UInt8) : fo l w 0 = ((first l w).1, []) := by simp [fo, fold]
theorem fo_succ (l : List Ru) (w : List UInt8) (i : Nat) (h : i < (first l w).2.length) : fo l w (i + 1) = ((fo l w i).1 ++ (stp l (fo l w i).2 (first l w).2[i]).1, (stp l (fo l w i).2 (first l w).2[i]).2) := by
  unfold fo fold
  rw [List.take_add_one, List.getElem?_eq_getElem h, List.foldl_append]
  rfl
theorem fo_all (l : List Ru) (w : List UInt8) : fo l w (first l w).2.length = fall l w := by simp [fo, fall]
theorem fo_len {l : List Ru} (h : Good l) (w : List UInt8) (i : Nat) : (fo l w i).2.length ≤ i := by
  have := fold_len h ((first l w).2.take i) ((first l w).1, [])
  simp at this
  unfold fo
  omega
theorem first_one {l : List Ru} (h : Good l) (w : List UInt8) : (first l w).1.length ≤ 32 := by
  unfold first
  split
  · rename_i r e
    exact (h.pos ((best_is l w).1 r e).1).2.2
  · simp; omega
theorem fo_out {l : List Ru} (h : Good l) (w : List UInt8) : ∀ i, i ≤ (first l w).2.length → (fo l w i).1.length ≤ 32 + 32 * (i * (i + 1)) := by
  intro i
  induction i with
  | zero => intro _; rw [fo_zero]; have := first_one h w; simp; omega
  | succ i ih =>
    intro hi
    have h1 := ih (by omega)
    rw [fo_succ l w i (by omega), List.length_append]
    have h2 := out_len h (fo l w i).2 (first l w).2[i]
    have h3 := fo_len h w i
    have e : (i + 1) * (i + 1 + 1) = i * (i + 1) + 2 * (i + 1) := by simp [Nat.mul_add, Nat.add_mul]; omega
    omega
theorem fo_wait {l : List Ru} (h : Good l) (w : List UInt8) : ∀ i, i ≤ (first l w).2.length → (fo l w i).2 = [] ∨ waits l (fo l w i).2 = true := by
  intro i
  induction i with
  | zero => intro _; rw [fo_zero]; exact .inl rfl
  | succ i ih =>
    intro hi
    rw [fo_succ l w i (by omega)]
    exact (does h _ _).1
theorem fall_out {l : List Ru} (h : Good l) {w : List UInt8} (hw : w ≠ []) : (fall l w).1.length ≤ 32 * w.length := by
  have h1 := (fall_does h hw).2
  have h2 := end_len h w
  rw [h1, List.length_append] at h2
  omega
theorem few_of {α : Type} [DecidableEq α] : ∀ {L M : List α}, L.Nodup → (∀ a ∈ L, a ∈ M) → L.length ≤ M.length
  | [], M, _, _ => Nat.zero_le _
  | x :: L, M, hd, hs => by
    have hx := hs x (List.mem_cons_self ..)
    have h1 := few_of (L := L) (M := M.erase x) (List.nodup_cons.1 hd).2 (fun b hb => (List.mem_erase_of_ne (fun (e : b = x) => (List.nodup_cons.1 hd).1 (by rw [← e]; exact hb))).2 (hs b (List.mem_cons_of_mem _ hb)))
    have h2 := List.length_erase_of_mem hx
    have h3 := List.length_pos_of_mem hx
    rw [List.length_cons]
    omega
theorem total_le : ∀ (l : List Ru), (∀ r ∈ l, r.f.length ≤ 16) → total l ≤ 16 * l.length := by
  intro l
  induction l with
  | nil => intro _; simp [total]
  | cons r l ih =>
    intro h
    have h1 := ih (fun r hr => h r (List.mem_cons_of_mem _ hr))
    have h2 := h r List.mem_cons_self
    simp [total] at h1 ⊢
    omega
theorem map_nodup {α β : Type} (f : α → β) (hf : ∀ a b, f a = f b → a = b) : ∀ (l : List α), l.Nodup → (l.map f).Nodup := by
  intro l
  induction l with
  | nil => intro _; simp
  | cons x l ih =>
    intro h
    rw [List.map_cons, List.nodup_cons]
    refine ⟨fun hm => ?_, ih (List.nodup_cons.1 h).2⟩
    obtain ⟨y, hy, e⟩ := List.mem_map.1 hm
    rw [hf y x e] at hy
    exact (List.nodup_cons.1 h).1 hy
theorem few_waits {l : List Ru} (h : Good l) {ks : List ByteArray} (hn : ks.Nodup) (hk : ∀ u ∈ ks, waits l u.data.toList = true) : ks.length ≤ 2000 := by
  have h1 := map_nodup (fun u : ByteArray => u.data.toList) (fun a b e => by cases a with | mk a => cases b with | mk b => simpa using e) ks hn
  have h2 : ∀ x ∈ (ks.map fun u => u.data.toList), x ∈ states l := fun x hx => by
    obtain ⟨u, hu, rfl⟩ := List.mem_map.1 hx
    exact states_mem (.inr (hk u hu))
  have h3 := few_of h1 h2
  rw [List.length_map] at h3
  have h4 := states_len (l := l) (fun r hr => (h.pos hr).1)
  have h5 := total_le l (fun r hr => (h.pos hr).2.1)
  have h6 := h.1
  omega
end Go.Proofs.Ytlmodfeiphffcaa.ru.rw

namespace Go.Proofs.Ytlmodfeiphffcaa.wr
open Go.ChangeShapes Go.WideShapes Go.ChangeAt Go.RowKit Go.Shelf Go.Maps
open tr
open mk (law9 OkT kt key9 kt_inj map_keep)
open ru (Ru Rus)
open ru.rw (waits whole stp fall states fo)
set_option linter.unusedVariables false
set_option maxRecDepth 100000

theorem ret106 {fn : Func} {p : Tmp} (h : fn.results = #[.cell p 106]) {a : Act} {W : World} {R : Ending → World → Prop} (g : Nat) (v0 v1 : Value) (hp : a.tmps.getD p undef = .pointer (some ⟨g, 0, none⟩)) (hb : W.heap[g]? = some (.cells #[v0, v1] 106 (0, 0))) (hd : a.defers = [])
    (hR : R (.returned (.agg #[v0, v1])) W) : bodyPost Try.prog fn R .ret a W :=
  bodyPost_ret (results_cell_row h _ _ g 106 _ (0, 0) _ hp hb Try.underlying106 rfl (by kernel_rfl)) hd hR
theorem set_two {W : World} {g : Nat} {u0 u1 v0 v1 : Value} (h : W.heap[g]? = some (.cells #[u0, u1] 106 (0, 0))) : ((W.setCell ⟨g, 0, none⟩ v0).setCell ⟨g, 1, none⟩ v1).heap[g]? = some (.cells #[v0, v1] 106 (0, 0)) := by
  have := heap_setCell_same W g 0 #[u0, u1] 106 v0 h
  have := heap_setCell_same _ g 1 _ 106 v1 this
  simpa using this
/-- only what became of texts changes, and new blocks -/
structure Fw (fm : Nat) (W W' : World) : Prop where
  os : W'.os = W.os
  tape : W'.tape = W.tape
  output : W'.output = W.output
  size : W.heap.size ≤ W'.heap.size
  block : ∀ i, i < W.heap.size → i ≠ fm → W'.heap[i]? = W.heap[i]?
theorem Fw.trans {fm : Nat} {W W1 W2 : World} (h : Fw fm W W1) (k : Fw fm W1 W2) : Fw fm W W2 := ⟨k.os.trans h.os, k.tape.trans h.tape, k.output.trans h.output, Nat.le_trans h.size k.size, fun i hi hne => (k.block i (Nat.lt_of_lt_of_le hi h.size) hne).trans (h.block i hi hne)⟩
theorem Fw.of {fm : Nat} {W W' : World} (h : Below W.heap.size W W') : Fw fm W W' := ⟨h.os, h.tape, h.output, h.size, fun i hi _ => h.block i hi⟩
/-- bytes whose block is new -/
theorem Fw.gw {fm : Nat} {W W1 W2 : World} {v v' : Value} (h : Fw fm W W1) (k : Gw fm W1 v W2 v') (hv : ∀ g, v.ownBlock = some g → W.heap.size ≤ g) : Fw fm W W2 ∧ ∀ g, v'.ownBlock = some g → W.heap.size ≤ g := by
  refine ⟨⟨k.os.trans h.os, k.tape.trans h.tape, k.output.trans h.output, Nat.le_trans h.size k.size, fun i hi hne => (k.block i (Nat.lt_of_lt_of_le hi h.size) (fun e => by have := hv i e.symm; omega) hne).trans (h.block i hi hne)⟩, fun g eg => ?_⟩
  rcases k.wh with e | e
  · exact hv g (by rw [← e]; exact eg)
  · exact Nat.le_trans h.size (e g eg)
theorem BufG.conv {f : Bool} {B : Nat} {v : Value} {xs : List UInt8} {W : World} (h : BufG f B v xs W) : Sem.run Try.prog (convert 51 9 v) W = .ok (.string (tr.bs xs)) W := by
  rcases h.2 with ⟨rfl, rfl⟩ | ⟨g, cap, cur, fz, rfl, hb, hg, _, _, h1, h2, h3, h4⟩
  · exact run_convert_bytes_nil W 51 5 Try.underlying51 Try.underlying5 0 0 9 Try.underlying9
  · refine run_convert_bytes_back (P := Try.prog) W 51 9 5 ⟨g, 0, none⟩ cap xs Try.underlying51 Try.underlying5 Try.underlying9 fun j hj => ?_
    have hplain : (⟨g, 0, none⟩ : Addr).add j = ⟨g, j, none⟩ := by unfold Addr.add; simp; omega
    rw [hplain, Lib.cell_of_heap hg]
    have e1 : (cur.toList.take xs.length)[j]? = (Lib.byteCells xs)[j]? := by rw [h4]
    rw [List.getElem?_take_of_lt hj, Array.getElem?_toList] at e1
    rw [e1]
    simp [Lib.byteCells, hj]
theorem step_update96 {ops : Array Oper} {o : Oper} {a : Act} {w : World} {K : Act → World → Prop} {Q : Exit → Act → World → Prop} {E : Prop} (hgd : o.guard = none) (m x v : Operand) (ho : o.op = .mapUpdate 96 m x v) (b n : Nat) (D : DataW Unit)
    (hm : a.eval m = .map (some b)) (hown : w.ownsMap Try.prog 9 RF b n D) (hn : n < maxLen) (key val : Value) (kl : Lit) (hx : a.eval x = key) (hv : a.eval v = val) (hkey : keyOf Try.prog 9 key = some kl)
    (d : DataW Unit) (ps : List MemPlace) (hval : RF val = some (d, ps))
    (hK : ∀ w', w'.ownsMap Try.prog 9 RF b (n + 1) (D.put kl d) → w.grownBy w' (some b) → K (a.put o.dst undef) w') : if Region.wanted o (yielded ops a.tmps) = true then Oper.wp Try.prog o a w K Q else E := by
  have hw : Region.wanted o (yielded ops a.tmps) = true := by simp [Region.wanted, hgd]
  rw [if_pos hw]
  obtain ⟨w', hrun, r1, r2⟩ := hown.update law9 Try.underlying96 hn hkey hval
  unfold Oper.wp
  simp [execOp, ho, hm, hx, hv, hrun, Result.andThen]
  exact hK w' r1 r2
def FallOut (B rb : Nat) (l : List Ru) (lv : Value) (sm fm : Nat) (u : ByteArray) (W : World) (e : Ending) (W' : World) : Prop :=
  e = .returned (.agg #[.string (tr.bs (fall l u.data.toList).1), .string (tr.bs (fall l u.data.toList).2)]) ∧ Rw B rb l lv sm fm W' ∧ Fw fm W W' ∧ NewLt (u.size + 1) fm W W'
set_option maxHeartbeats 2000000 in
theorem fall_found (l : List Ru) (B rb : Nat) (lv : Value) (sm fm : Nat) (W : World) (hR : Rw B rb l lv sm fm W) (ks : List ByteArray) (D : DataW Unit) (hD : W.ownsMap Try.prog 9 RF fm ks.length D) (hF : IsFl l ks D) (u : ByteArray) (hu : u ∈ ks) :
    Calls Try.prog 57 #[.pointer (some ⟨rb, 0, none⟩), .string u] W (FallOut B rb l lv sm fm u W) := by
  have ba := below_alloc W (.cells #[.string ⟨#[]⟩, .string ⟨#[]⟩] 106)
  have R0 := hR.later ba
  obtain ⟨e2, k2, n2⟩ := hR.fobj
  have hlk := look96 (map_same hD (ba.block fm (Array.getElem?_eq_some_iff.1 n2).1)) hF u hu
  have c2 := R0.c2
  generalize hP : tr.bs (fall l u.data.toList).1 = P at *
  generalize hQ : tr.bs (fall l u.data.toList).2 = Q at *
  have bb := below_alloc (W.alloc (.cells #[.string ⟨#[]⟩, .string ⟨#[]⟩] 106)) (.cells #[.string P, .string Q] 106)
  have x0 := (bb.block W.heap.size (by simp)).trans (World.alloc_heap_new W (.cells #[.string ⟨#[]⟩, .string ⟨#[]⟩] 106))
  have R1 := R0.later bb
  have hrz : rb ≠ W.heap.size ∧ sm ≠ W.heap.size ∧ fm ≠ W.heap.size := by
    obtain ⟨e1, k1, n1⟩ := hR.sobj
    have := hR.rl
    have h1 := (Array.getElem?_eq_some_iff.1 n1).1
    have h2 := (Array.getElem?_eq_some_iff.1 n2).1
    omega
  have b3 : Below W.heap.size W ((W.alloc (.cells #[.string P, .string Q] 106)).alloc (.cells #[.string P, .string Q] 106)) := ru.chain (below_alloc W _) (below_alloc _ _)
  have x1 : ((W.alloc (.cells #[.string P, .string Q] 106)).alloc (.cells #[.string P, .string Q] 106)).heap[W.heap.size]? = some (.cells #[.string P, .string Q] 106 (0, 0)) := ((below_alloc (W.alloc (.cells #[.string P, .string Q] 106)) (.cells #[.string P, .string Q] 106)).block W.heap.size (by simp)).trans (World.alloc_heap_new W _)
  have HF := (show Hid (FallOut B rb l lv sm fm u W (.returned (.agg #[.string P, .string Q])) ((W.alloc (.cells #[.string P, .string Q] 106)).alloc (.cells #[.string P, .string Q] 106))) from ⟨by rw [hP, hQ], hR.later b3, Fw.of b3, NewLt.same hR (b3.block fm (Array.getElem?_eq_some_iff.1 n2).1)⟩)
  have X1 := (show Hid _ from x1)
  clear hR R0 R1 hD hF hu ba bb x0 x1 b3 n2 hP hQ
  go_enter Try.func57, Try.ntmps57
  go_wp2_with (fail)
  refine ret106 (by rfl) W.heap.size _ _ (by rfl) X1.out (by rfl) ?_
  exact HF.out
end Go.Proofs.Ytlmodfeiphffcaa.wr
