/-
  Texts put together: Contracts over this program: nfa.Build. Contracts over this program: nfa.Build of an expression that may be.
-/
import Derived.Test.YtfilndgbgdnpiaaKVj
import Derived.Laws.ResultCell
import Derived.Laws.Tables
namespace Go.Proofs.Ytfilndgbgdnpiaa.nb
open Go.ChangeShapes Go.WideShapes Go.ChangeAt Go.RowKit
open st (Tr Q4 nodesOf goods okNode Is Box nthT rightN)
open nf (Ed nfaV Eds)
set_option linter.unusedVariables false
set_option maxRecDepth 100000

theorem edsC_get : ∀ (l : List Ed) (i k : Nat) (hi : i < l.length) (hk : k < 7), (edsC l)[i * 7 + k]? = (edC l[i])[k]?
  | [], i, k, hi, hk => by simp at hi
  | e :: l, 0, k, hi, hk => by
    show (edC e ++ edsC l)[0 * 7 + k]? = _
    rw [Nat.zero_mul, Nat.zero_add, List.getElem?_append_left (by simpa [edC] using hk)]
    rfl
  | e :: l, i + 1, k, hi, hk => by
    have := edsC_get l i k (by simpa using hi) hk
    show (edC e ++ edsC l)[(i + 1) * 7 + k]? = _
    rw [List.getElem?_append_right (by simp [edC]; omega), show (i + 1) * 7 + k - (edC e).length = i * 7 + k by simp [edC]; omega, this]
    rfl
theorem eds_of {w : World} {B g : Nat} {x : St} {v : Value} (h : Bx w B g x v) : ∃ o cap, v = .slice o x.es.length cap ∧ Eds w o cap x.es := by
  rcases h.own.2 with ⟨rfl, hl⟩ | ⟨gg, cap, cur, rfl, hb, hg, hn, hc, hs, ht⟩
  · refine ⟨none, 0, by rw [hl], ⟨by omega, by omega, fun i hi => by omega⟩⟩
  · unfold maxLen at hc
    refine ⟨_, cap, rfl, ⟨hn, hc, fun i hi => ⟨gg, 0, rfl, (Array.getElem?_eq_some_iff.1 hg).1, ?_⟩⟩⟩
    have hcell : ∀ k, k < 7 → w.cell? ⟨gg, 0 + i * 7 + k, none⟩ = (edC x.es[i])[k]? := fun k hk => by
      have := World.ownsRow.cellAt h.own (i * 7 + k) (by omega)
      rw [Nat.zero_add, this, edsC_get x.es i k hi hk]
    exact ⟨hcell 0 (by omega), hcell 1 (by omega), hcell 2 (by omega), hcell 3 (by omega), hcell 4 (by omega), hcell 5 (by omega), hcell 6 (by omega)⟩
theorem info31 : (Try.prog.info? 31).map (·.size) = some 4 := by kernel_rfl
theorem ret31 {fn : Func} {p u : Tmp} (h : fn.results = #[.cell p 31, .tmp u]) {a : Act} {W : World} {R : Ending → World → Prop} (g : Nat) (v0 v1 v2 v3 : Value) (n : Int) (hp : a.tmps.getD p undef = .pointer (some ⟨g, 0, none⟩)) (hA : W.heap[g]? = some (.cells #[v0, v1, v2, v3] 31 (0, 0))) (hu : a.tmps.getD u undef = .int .i64 n) (hd : a.defers = [])
    (hR : R (.returned (.tuple #[.agg #[v0, v1, v2, v3], .int .i64 n])) W) : bodyPost Try.prog fn R .ret a W :=
  bodyPost_ret (by rw [results_cell_tmp h, hp, hu]; simp [asAddr, Result.andThen, run_loadVar_row W g 31 31 _ (0, 0) _ hA Try.underlying31 rfl info31]) hd hR
theorem below_setRow {n g : Nat} {w W : World} (h : Below n w W) (hg : n ≤ g) (hn : n ≤ w.heap.size) (cs : Array Value) : Below n w (W.setRow g cs) := ⟨h.os, h.tape, h.output, by simpa using h.size, fun k hk => (setRow_other _ _ _ _ (by omega)).trans (h.block k hk)⟩
set_option maxHeartbeats 1000000 in
theorem build_no (t : Tr) (hr : rightN t ≠ 0) (tv : Value) (w : World) (ht : Is w (fun _ => True) t tv) :
    Calls Try.prog 7 #[trV t tv] w fun e w' => e = .returned (.tuple #[nfaV 0 0 0 none 0 0, .int .i64 (rightN t : Int)]) ∧ Below w.heap.size w w' := by
  obtain ⟨w1, hw1⟩ : ∃ w1, w1 = (w.alloc (.cells #[.int .i64 t.kind, .int .u64 t.set.a, .int .u64 t.set.b, .int .u64 t.set.c, .int .u64 t.set.d, .int .i64 t.min, .int .i64 t.max, tv] 28)).alloc (.cells #[.int .i64 0, .int .i64 0, .int .i64 0, .slice none 0 0] 31) := ⟨_, rfl⟩
  have bl : Below w.heap.size w w1 := by rw [hw1]; exact ((Below.refl _ _).alloc (Nat.le_refl _) _).alloc (by simp) _
  have bx : Box w1 w.heap.size t tv := by rw [hw1]; exact (st.box_new w t tv).below (nf.below_alloc _ _)
  have br : w1.heap[w.heap.size + 1]? = some (.cells #[.int .i64 0, .int .i64 0, .int .i64 0, .slice none 0 0] 31 (0, 0)) := by
    rw [hw1]
    have := heap_alloc_new (w.alloc (.cells #[.int .i64 t.kind, .int .u64 t.set.a, .int .u64 t.set.b, .int .u64 t.set.c, .int .u64 t.set.d, .int .i64 t.min, .int .i64 t.max, tv] 28)) (.cells #[.int .i64 0, .int .i64 0, .int .i64 0, .slice none 0 0] 31)
    simpa using this
  have h26 := st.right_is t _ rfl tv w1 (ht.carry bl.size (fun _ _ _ => trivial) (fun b _ hlt => bl.block b hlt))
  have hq : ((rightN t : Int) == 0) = false := beq_eq_false_iff_ne.2 (by omega)
  have hq2 : ((rightN t : Int) != 0) = true := bne_iff_ne.2 (by omega)
  obtain ⟨r, hrr⟩ : ∃ r, r = rightN t := ⟨_, rfl⟩
  rw [← hrr] at h26 hq hq2 ⊢
  rw [hw1] at h26 bx
  have HW := (show Hid _ from hw1)
  have HB := (show Hid (Below w.heap.size w w1) from bl)
  have HR := (show Hid _ from br)
  clear hw1 ht bl br hrr hr
  go_enter Try.func7, Try.ntmps7
  go_wp2_with (first | (refine wpList_load_row rfl 28 (.tmp 1) rfl w.heap.size rfl 28 _ (0, 0) _ bx Try.underlying28 rfl info28 ?_) | (go_at_call 26; refine h26.mono ?_; rintro e w2 ⟨rfl, k2⟩; rw [← HW.out] at k2; have b3 : w2.heap[w.heap.size + 1]? = some (.cells #[.int .i64 0, .int .i64 0, .int .i64 0, .slice none 0 0] 31 (0, 0)) := (k2.block _ (Array.getElem?_eq_some_iff.1 HR.out).1).trans HR.out) | (refine wpList_store_row (by rfl) 31 (.tmp 2) (.tmp 10) (by rfl) (w.heap.size + 1) #[.int .i64 0, .int .i64 0, .int .i64 0, .slice none 0 0] (by rfl) (by rfl) 31 _ b3 info31 rfl (by simp [Value.oneCell']) ?_))
  refine ret31 Try.results7 (w.heap.size + 1) _ _ _ _ (r : Int) rfl (setRow_heap _ _ _ _ _ _ b3) rfl rfl ?_
  exact ⟨rfl, below_setRow (nf.chain HB.out k2) (Nat.le_succ _) (Nat.le_refl _) _⟩
end Go.Proofs.Ytfilndgbgdnpiaa.nb

namespace Go.Proofs.Ytfilndgbgdnpiaa.nb
open Go.ChangeShapes Go.WideShapes Go.ChangeAt Go.RowKit
open st (Tr Q4 nodesOf goods okNode Is Box nthT rightN)
open nf (Ed nfaV Eds)
set_option linter.unusedVariables false
set_option maxRecDepth 100000

theorem right_of (t : Tr) (h : rightN t = 0) : t.depth ≤ 30 ∧ t.nodes ≤ 512 ∧ t.good = true := by
  unfold rightN at h
  split at h
  · rename_i h1
    split at h
    · rename_i h2
      exact ⟨h1.1, h1.2, h2⟩
    · cases h
  · cases h
/-- what Build answers for an expression that may be -/
def Ans (t : Tr) (e : Ending) (w' : World) : Prop :=
  ((built t).full = true ∧ e = .returned (.tuple #[nfaV 0 0 0 none 0 0, .int .i64 80])) ∨
  ((built t).full = false ∧ ∃ o cap, e = .returned (.tuple #[nfaV ((built t).n : Int) 0 1 o (built t).es.length cap, .int .i64 0]) ∧ Eds w' o cap (built t).es)
set_option maxHeartbeats 2000000 in
theorem build_yes (t : Tr) (hr : rightN t = 0) (tv : Value) (w : World) (ht : Is w (fun _ => True) t tv) :
    Calls Try.prog 7 #[trV t tv] w fun e w' => Ans t e w' ∧ Below w.heap.size w w' := by
  obtain ⟨hd, hn, hg⟩ := right_of t hr
  obtain ⟨w1, hw1⟩ : ∃ w1, w1 = (w.alloc (.cells #[.int .i64 t.kind, .int .u64 t.set.a, .int .u64 t.set.b, .int .u64 t.set.c, .int .u64 t.set.d, .int .i64 t.min, .int .i64 t.max, tv] 28)).alloc (.cells #[.int .i64 0, .int .i64 0, .int .i64 0, .slice none 0 0] 31) := ⟨_, rfl⟩
  have bl : Below w.heap.size w w1 := by rw [hw1]; exact ((Below.refl _ _).alloc (Nat.le_refl _) _).alloc (by simp) _
  have bx : Box w1 w.heap.size t tv := by rw [hw1]; exact (st.box_new w t tv).below (nf.below_alloc _ _)
  have br : w1.heap[w.heap.size + 1]? = some (.cells #[.int .i64 0, .int .i64 0, .int .i64 0, .slice none 0 0] 31 (0, 0)) := by
    rw [hw1]
    have := heap_alloc_new (w.alloc (.cells #[.int .i64 t.kind, .int .u64 t.set.a, .int .u64 t.set.b, .int .u64 t.set.c, .int .u64 t.set.d, .int .i64 t.min, .int .i64 t.max, tv] 28)) (.cells #[.int .i64 0, .int .i64 0, .int .i64 0, .slice none 0 0] 31)
    simpa using this
  have h26 := st.right_is t _ rfl tv w1 (ht.carry bl.size (fun _ _ _ => trivial) (fun b _ hlt => bl.block b hlt))
  rw [hr] at h26
  have HBX := (show Hid (Box w1 w.heap.size t tv) from bx)
  have HTO := (show Hid (∀ W, Below w.heap.size w W → Is W (· < w.heap.size) t tv) from fun W h => (st.Is.old ht).carry h.size (fun _ p _ => p) (fun b _ hlt => h.block b hlt))
  have HR := (show Hid _ from br)
  rw [hw1] at h26 bx
  have HW := (show Hid _ from hw1)
  have HB := (show Hid (Below w.heap.size w w1) from bl)
  have HL := (show Hid (∀ (B g : Nat) (v : Value) (W : World), Bx W B g ⟨2, []⟩ v → B ≤ W.heap.size → Is W (· < B) t tv → Calls Try.prog 27 #[.pointer (some ⟨g, 0, none⟩), trV t tv, .int .i64 0, .int .i64 1] W fun e w' => e = .returned (.tuple #[]) ∧ ∃ v', Bx w' B g (built t) v' ∧ Mv g v v' W w') from fun B g v W h1 h2 h3 => lay_any t.depth t (Nat.le_refl _) hg 0 1 ⟨2, []⟩ 16000 ⟨by simp, by simp⟩ ⟨Nat.le_refl _, hn, by omega⟩ B g v W tv h1 h2 h3)
  have hmo := (lay_lim t.depth t (Nat.le_refl _) hg).add 0 1 ⟨2, []⟩ 16000 16000 (by omega) (by omega) ⟨by simp, by simp⟩
  have HFu := (show Hid (FullIs (built t)) from full_any (built t) (by have := hmo.n; show (layT t 0 1 ⟨2, []⟩).n ≤ _; omega) (by have := hmo.e; show (layT t 0 1 ⟨2, []⟩).es.length ≤ _; omega))
  clear hw1 ht bl br hr hmo hd hn hg
  unfold Ans
  generalize built t = z at *
  go_enter Try.func7, Try.ntmps7
  go_wp2_with (first | (refine wpList_load_row rfl 28 (.tmp 1) rfl w.heap.size rfl 28 _ (0, 0) _ bx Try.underlying28 rfl info28 ?_) | (go_at_call 26; refine h26.mono ?_; rintro e w2 ⟨rfl, k2⟩; clear h26 bx; rw [← HW.out] at k2; have HK2 := (show Hid (Below w.heap.size w w2) from nf.chain HB.out k2); have bx2 : Box (w2.alloc (.cells #[.int .i64 2, .int .i64 0, .int .i64 1, .slice none 0 0] 63)) w.heap.size t tv := (HBX.out.below k2).below (nf.below_alloc _ _); have c27 := HL.out w2.heap.size w2.heap.size (.slice none 0 0) (w2.alloc (.cells #[.int .i64 2, .int .i64 0, .int .i64 1, .slice none 0 0] 63)) ⟨Nat.le_refl _, heap_alloc_new w2 _, World.ownsRow_nil _ _ _ _⟩ (by simp) ((HTO.out _ (nf.chain HK2.out (nf.below_alloc _ _))).carry (Nat.le_refl _) (fun b hb _ => Nat.lt_of_lt_of_le hb HK2.out.size) (fun _ _ _ => rfl))) | (refine wpList_load_row rfl 28 (.tmp 1) rfl w.heap.size rfl 28 _ (0, 0) _ bx2 Try.underlying28 rfl info28 ?_) | (go_at_call 27; refine c27.mono ?_; rintro e w3 ⟨rfl, v3, hx3, m3⟩; clear c27; have c28 := HFu.out _ _ _ _ hx3))
  have g1 : w.heap.size + 1 < w1.heap.size := (Array.getElem?_eq_some_iff.1 HR.out).1
  have g2 : w1.heap.size ≤ w2.heap.size := k2.size
  have b3 : w3.heap[w.heap.size + 1]? = some (.cells #[.int .i64 0, .int .i64 0, .int .i64 0, .slice none 0 0] 31 (0, 0)) := by
    rw [m3.block _ (by simp; omega) (by omega) (by simp [Value.ownBlock]), (nf.below_alloc w2 _).block _ (by omega), k2.block _ g1]
    exact HR.out
  have HK3 := (show Hid (Below w.heap.size w w3) from ⟨m3.os.trans HK2.out.os, m3.tape.trans HK2.out.tape, m3.output.trans HK2.out.output, by have := m3.size; have := HK2.out.size; simp at *; omega, fun k hk => by
    rw [m3.block k (by simp; omega) (by omega) (by simp [Value.ownBlock]), (nf.below_alloc w2 _).block k (by omega)]
    exact HK2.out.block k hk⟩)
  have HX4 := (show Hid (∀ cs, Bx (w3.setRow (w.heap.size + 1) cs) w2.heap.size w2.heap.size z v3) from fun cs => ⟨hx3.bg, (setRow_other _ _ _ _ (by omega)).trans hx3.blk, ow.keep hx3.own fun k hk => setRow_other _ _ _ _ (fun e => by subst e; exact ow.type hx3.own b3 (by decide) hk.symm)⟩)
  have blk3 := hx3.blk
  obtain ⟨vo, vc, hv3, _⟩ := hx3.form
  subst hv3
  clear HL HFu HTO HBX hx3 m3 bx2 k2 HW HB HR HK2
  cases hfz : z.full with
  | true =>
    rw [hfz] at c28
    refine c28.mono ?_
    rintro e w4 ⟨rfl, hw4⟩
    subst hw4
    go_wp2_with (refine wpList_store_row (by rfl) 31 (.tmp 2) (.tmp 23) (by rfl) (w.heap.size + 1) #[.int .i64 0, .int .i64 0, .int .i64 0, .slice none 0 0] (by rfl) (by rfl) 31 _ b3 info31 rfl (by simp [Value.oneCell']) ?_)
    refine ret31 Try.results7 (w.heap.size + 1) _ _ _ _ 80 rfl (setRow_heap _ _ _ _ _ _ b3) rfl rfl ?_
    exact ⟨.inl ⟨hfz, rfl⟩, below_setRow HK3.out (Nat.le_succ _) (Nat.le_refl _) _⟩
  | false =>
    rw [hfz] at c28
    refine c28.mono ?_
    rintro e w4 ⟨rfl, hw4⟩
    subst hw4
    go_wp2_with (first | (refine wpList_load_row rfl 31 (.tmp 24) rfl w2.heap.size rfl 63 _ (0, 0) _ blk3 Try.underlying31 rfl info31 ?_) | (refine wpList_store_row (by rfl) 31 (.tmp 2) (.tmp 25) (by rfl) (w.heap.size + 1) #[.int .i64 (z.n : Int), .int .i64 0, .int .i64 1, .slice vo z.es.length vc] (by rfl) (by rfl) 31 _ b3 info31 rfl (by simp [Value.oneCell']) ?_))
    obtain ⟨o2, cap2, e2, hE⟩ := eds_of (HX4.out #[.int .i64 (z.n : Int), .int .i64 0, .int .i64 1, .slice vo z.es.length vc])
    cases e2
    refine ret31 Try.results7 (w.heap.size + 1) _ _ _ _ 0 rfl (setRow_heap _ _ _ _ _ _ b3) rfl rfl ?_
    exact ⟨.inr ⟨hfz, _, _, rfl, hE⟩, below_setRow HK3.out (Nat.le_succ _) (Nat.le_refl _) _⟩
end Go.Proofs.Ytfilndgbgdnpiaa.nb
