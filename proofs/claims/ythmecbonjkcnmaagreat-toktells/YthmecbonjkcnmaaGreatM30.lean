/-
  Texts put together: Plain mathematics: how large an expression is, and that what is laid for it is no larger. Contracts over this program: nfa.Build. Contracts over this program: nfa.Build of an expression that may be.
-/
import Derived.Test.YthmecbonjkcnmaaGreatM00
import Derived.Test.YthmecbonjkcnmaaGreatM08
import Derived.Test.YthmecbonjkcnmaaGreatM29
import Derived.Laws.ResultCell
import Derived.Laws.Tables
namespace Go.Proofs.YthmecbonjkcnmaaGreat.nb
open st (Tr Q4 nodesOf goods okNode nthT)
open nf (Ed)
set_option linter.unusedVariables false

def tms (k mn mx : Int) : Nat := if k = 4 then Max.max (Max.max 1 mx.toNat) mn.toNat else 1
mutual
def szT : Tr → Nat
  | .node k q mn mx l => 2 + tms k mn mx * szs l
def szs : List Tr → Nat
  | [] => 0
  | t :: l => szT t + szs l
end
theorem szT_eq (t : Tr) : szT t = 2 + tms t.kind t.min t.max * szs t.kids := by
  cases t
  rw [szT]
  rfl
theorem sz_two (t : Tr) : 2 ≤ szT t := by rw [szT_eq]; omega
theorem tms_one (k mn mx : Int) : 1 ≤ tms k mn mx := by
  unfold tms
  split <;> omega
theorem szs_take : ∀ (l : List Tr) (i : Nat), i < l.length → szs (l.take (i + 1)) = szs (l.take i) + szT (nthT l i)
  | [], i, h => by simp at h
  | t :: l, 0, h => by
    simp only [List.take_succ_cons, List.take_zero, szs]
    show szT t + 0 = 0 + szT t
    omega
  | t :: l, i + 1, h => by
    have := szs_take l i (by simpa using h)
    simp only [List.take_succ_cons, szs]
    rw [this]
    show szT t + (szs (l.take i) + szT (nthT l i)) = szT t + szs (l.take i) + szT (nthT l i)
    omega
theorem szs_le : ∀ (l : List Tr) (i : Nat), szs (l.take i) ≤ szs l
  | [], i => by simp
  | t :: l, 0 => by simp [szs]
  | t :: l, i + 1 => by
    have := szs_le l i
    simp only [List.take_succ_cons, szs]
    omega
/-- what a lay adds at most -/
structure Adds (L : Lay) (a b : Nat) : Prop where
  n : ∀ f t x, (L f t x).n ≤ x.n + a
  e : ∀ f t x, (L f t x).es.length ≤ x.es.length + b
theorem times_adds {L : Lay} {a b : Nat} (h : Adds L a b) : ∀ (k f : Nat) (x : St), (times L k f x).2.n ≤ x.n + k * (a + 1) ∧ (times L k f x).2.es.length ≤ x.es.length + k * b
  | 0, f, x => by simp [times]
  | k + 1, f, x => by
    have h1 := times_adds h k x.n (L f x.n x.new)
    have h2 := h.n f x.n x.new
    have h3 := h.e f x.n x.new
    have e1 : x.new.n = x.n + 1 := rfl
    have e2 : x.new.es = x.es := rfl
    rw [e1] at h2
    rw [e2] at h3
    rw [times, Nat.succ_mul, Nat.succ_mul]
    omega
theorem free_n (x : St) (f t : Nat) : (x.free f t).n = x.n := rfl
theorem free_e (x : St) (f t : Nat) : (x.free f t).es.length = x.es.length + 1 := by simp [St.free]
theorem new_n (x : St) : x.new.n = x.n + 1 := rfl
theorem new_e (x : St) : x.new.es.length = x.es.length := rfl
theorem upTo_adds {L : Lay} {a b : Nat} (h : Adds L a b) (least to : Nat) : ∀ (k i f : Nat) (x : St), (upTo L least to k i f x).n ≤ x.n + k * (a + 1) ∧ (upTo L least to k i f x).es.length ≤ x.es.length + k * (b + 1) + 1
  | 0, i, f, x => by
    rw [upTo, free_n, free_e]
    omega
  | k + 1, i, f, x => by
    obtain ⟨y, hy⟩ : ∃ y, y = if least ≤ i then x.free f to else x := ⟨_, rfl⟩
    have hyn : y.n = x.n := by rw [hy]; split <;> rfl
    have hye : y.es.length ≤ x.es.length + 1 := by
      rw [hy]
      split
      · rw [free_e]; omega
      · omega
    have h1 := upTo_adds h least to k (i + 1) y.n (L f y.n y.new)
    have h2 := h.n f y.n y.new
    have h3 := h.e f y.n y.new
    rw [new_n] at h2
    rw [new_e] at h3
    unfold upTo
    dsimp only
    rw [← hy, Nat.succ_mul, Nat.succ_mul]
    omega
theorem again_adds {L : Lay} {a b : Nat} (h : Adds L a b) (least f to : Nat) (x : St) : (again L least f to x).n ≤ x.n + (least - 1) * (a + 1) + (if 0 < least then 2 else 1) + a ∧ (again L least f to x).es.length ≤ x.es.length + (least - 1) * b + b + 3 := by
  have h1 := times_adds h (least - 1) f x
  unfold again
  dsimp only
  generalize times L (least - 1) f x = y at *
  by_cases hl : 0 < least
  · rw [if_pos hl, if_pos hl]
    have h2 := h.n y.2.n (y.2.new.free y.1 y.2.n).n ((y.2.new.free y.1 y.2.n).new.free (y.2.new.free y.1 y.2.n).n y.2.n)
    have h3 := h.e y.2.n (y.2.new.free y.1 y.2.n).n ((y.2.new.free y.1 y.2.n).new.free (y.2.new.free y.1 y.2.n).n y.2.n)
    rw [free_n, free_e]
    simp only [free_n, new_n] at h2 ⊢
    simp only [free_n, new_n, free_e, new_e] at h3 ⊢
    omega
  · rw [if_neg hl, if_neg hl]
    have h2 := h.n y.2.n y.2.n (y.2.new.free y.1 y.2.n)
    have h3 := h.e y.2.n y.2.n (y.2.new.free y.1 y.2.n)
    rw [free_n, free_e]
    simp only [free_n, new_n] at h2 ⊢
    simp only [free_e, new_e] at h3 ⊢
    omega
/-- so many times so large -/
theorem mul_room (k T a s : Nat) (hk : k ≤ T) (ha : a + 1 ≤ s) : k * (a + 1) ≤ T * s := Nat.mul_le_mul hk ha
mutual
theorem lay_adds : ∀ (t : Tr), t.good = true → Adds (layT t) (szT t - 2) (2 * szT t - 3)
  | .node k q mn mx l, hg => by
    rw [Tr.good_eq, Bool.and_eq_true] at hg
    have htm := times_of _ hg.1
    have hgl : goods l = true := hg.2
    have hrow := row_adds l hgl
    have halt := alt_adds l hgl
    have hsz := sz_two (.node k q mn mx l)
    have he : szT (.node k q mn mx l) = 2 + tms k mn mx * szs l := by rw [szT]
    have hT := tms_one k mn mx
    simp only [Tr.kind, Tr.min, Tr.max, Tr.kids] at htm
    suffices hh : ∀ f t x, ((layT (.node k q mn mx l) f t x).n ≤ x.n + (szT (.node k q mn mx l) - 2)) ∧ ((layT (.node k q mn mx l) f t x).es.length ≤ x.es.length + (2 * szT (.node k q mn mx l) - 3)) from ⟨fun f t x => (hh f t x).1, fun f t x => (hh f t x).2⟩
    intro f t x
    rw [he]
    rw [layT]
    split
    · omega
    · split
      · simp only [St.over, List.length_append, List.length_singleton]
        omega
      · split
        · next h2 =>
          have hq : tms k mn mx = 1 := by unfold tms; rw [if_neg (by omega)]
          have := hrow f x
          rw [hq, free_n, free_e]
          omega
        · split
          · next h3 =>
            have hq : tms k mn mx = 1 := by unfold tms; rw [if_neg (by omega)]
            have := halt f t x
            rw [hq]
            omega
          · split
            · next h4 =>
              obtain ⟨g1, g2, g3, g4⟩ := htm h4
              have hq : tms k mn mx = Max.max (Max.max 1 mx.toNat) mn.toNat := by unfold tms; rw [if_pos h4]
              have hd := head_adds l hgl g1
              have hs2 : 2 ≤ szs l := by
                cases l with
                | nil => simp at g1
                | cons u l => have := sz_two u; rw [szs]; omega
              split
              · next h5 =>
                have ha := again_adds hd mn.toNat f t x
                obtain ⟨S, hS⟩ : ∃ S, szs l = S := ⟨_, rfl⟩
                rw [hS] at ha hs2 ⊢
                rw [hq]
                by_cases hm : 0 < mn.toNat
                · rw [if_pos hm] at ha
                  have e1 : Max.max (Max.max 1 mx.toNat) mn.toNat = mn.toNat := by omega
                  rw [e1]
                  obtain ⟨m, hm2⟩ : ∃ m, mn.toNat = m + 1 := ⟨mn.toNat - 1, by omega⟩
                  rw [hm2] at ha ⊢
                  rw [Nat.add_sub_cancel] at ha
                  have p1 : m * (S - 2 + 1) ≤ m * S := Nat.mul_le_mul (Nat.le_refl _) (by omega)
                  have p2 : m * (2 * S - 3) ≤ m * (2 * S) := Nat.mul_le_mul (Nat.le_refl _) (by omega)
                  have p3 : m * (2 * S) = 2 * (m * S) := by rw [Nat.mul_left_comm]
                  rw [Nat.succ_mul]
                  omega
                · rw [if_neg hm] at ha
                  have e0 : mn.toNat = 0 := by omega
                  rw [e0] at ha ⊢
                  have e1 : Max.max (Max.max 1 mx.toNat) 0 = 1 := by omega
                  rw [e1]
                  omega
              · next h5 =>
                have ha := upTo_adds hd mn.toNat t mx.toNat 0 f x
                obtain ⟨S, hS⟩ : ∃ S, szs l = S := ⟨_, rfl⟩
                rw [hS] at ha hs2 ⊢
                obtain ⟨T, hTT⟩ : ∃ T, tms k mn mx = T := ⟨_, rfl⟩
                rw [hTT]
                rw [hTT] at hq hT
                have p1 : mx.toNat * (S - 2 + 1) ≤ T * S := Nat.mul_le_mul (by omega) (by omega)
                have p2 : mx.toNat * (2 * S - 3 + 1) ≤ T * (2 * S) := Nat.mul_le_mul (by omega) (by omega)
                have p3 : T * (2 * S) = 2 * (T * S) := by rw [Nat.mul_left_comm]
                omega
            · omega
theorem row_adds : ∀ (l : List Tr), goods l = true → ∀ (f : Nat) (x : St), (rowT l f x).2.n ≤ x.n + szs l ∧ (rowT l f x).2.es.length ≤ x.es.length + 2 * szs l
  | [], _, f, x => by simp [rowT, szs]
  | t :: l, hg, f, x => by
    rw [goods, Bool.and_eq_true] at hg
    have h1 := lay_adds t hg.1
    have h2 := row_adds l hg.2 x.n (layT t f x.n x.new)
    have h3 := h1.n f x.n x.new
    have h4 := h1.e f x.n x.new
    rw [new_n] at h3
    rw [new_e] at h4
    have := sz_two t
    rw [rowT, szs]
    omega
theorem alt_adds : ∀ (l : List Tr), goods l = true → ∀ (f to : Nat) (x : St), (altT l f to x).n ≤ x.n + szs l ∧ (altT l f to x).es.length ≤ x.es.length + 2 * szs l
  | [], _, f, to, x => by simp [altT, szs]
  | t :: l, hg, f, to, x => by
    rw [goods, Bool.and_eq_true] at hg
    have h1 := lay_adds t hg.1
    have h2 := alt_adds l hg.2 f to (layT t f to x)
    have h3 := h1.n f to x
    have h4 := h1.e f to x
    have := sz_two t
    rw [altT, szs]
    omega
theorem head_adds : ∀ (l : List Tr), goods l = true → l.length = 1 → Adds (headT l) (szs l - 2) (2 * szs l - 3)
  | [], _, h => by simp at h
  | [t], hg, _ => by
    rw [goods, Bool.and_eq_true] at hg
    have h1 := lay_adds t hg.1
    have e : szs [t] = szT t := by rw [szs, szs, Nat.add_zero]
    rw [e]
    exact ⟨fun f to x => by rw [headT]; exact h1.n f to x, fun f to x => by rw [headT]; exact h1.e f to x⟩
  | t :: u :: l, _, h => by simp at h
end
theorem built_small (t : Tr) (hg : t.good = true) (h : (built t).full = true) : 1000 < szT t := by
  have h1 := lay_adds t hg
  have h2 := h1.n 0 1 ⟨2, []⟩
  have h3 := h1.e 0 1 ⟨2, []⟩
  have h4 := sz_two t
  have e : built t = layT t 0 1 ⟨2, []⟩ := rfl
  rw [← e] at h2 h3
  unfold St.full at h
  rw [Bool.or_eq_true, decide_eq_true_eq, decide_eq_true_eq] at h
  simp only [List.length_nil] at h2 h3
  omega
end Go.Proofs.YthmecbonjkcnmaaGreat.nb

namespace Go.Proofs.YthmecbonjkcnmaaGreat.nb
open Go.ChangeShapes Go.WideShapes Go.ChangeAt Go.RowKit
open st (Tr Q4 nodesOf goods okNode Is Box nthT rightN)
open nf (Ed nfaV Eds)
set_option linter.unusedVariables false
set_option maxRecDepth 100000

theorem edsC_get : ∀ (l : List Ed) (i k : Nat) (hi : i < l.length) (hk : k < 7), (edsC l)[i * 7 + k]? = (edC l[i])[k]?
  | [], i, k, hi, hk => by simp at hi
  | e :: l, 0, k, hi, hk => by
    show (edC e ++ edsC l)[0 * 7 + k]? = _
    rw [Nat.zero_mul, Nat.zero_add, List.getElem?_append_left (by simpa [edC] using hk)]
    rfl
  | e :: l, i + 1, k, hi, hk => by
    have := edsC_get l i k (by simpa using hi) hk
    show (edC e ++ edsC l)[(i + 1) * 7 + k]? = _
    rw [List.getElem?_append_right (by simp [edC]; omega), show (i + 1) * 7 + k - (edC e).length = i * 7 + k by simp [edC]; omega, this]
    rfl
theorem eds_of {w : World} {B g : Nat} {x : St} {v : Value} (h : Bx w B g x v) : ∃ o cap, v = .slice o x.es.length cap ∧ Eds w o cap x.es := by
  rcases h.own.2 with ⟨rfl, hl⟩ | ⟨gg, cap, cur, rfl, hb, hg, hn, hc, hs, ht⟩
  · refine ⟨none, 0, by rw [hl], ⟨by omega, by omega, fun i hi => by omega⟩⟩
  · unfold maxLen at hc
    refine ⟨_, cap, rfl, ⟨hn, hc, fun i hi => ⟨gg, 0, rfl, (Array.getElem?_eq_some_iff.1 hg).1, ?_⟩⟩⟩
    have hcell : ∀ k, k < 7 → w.cell? ⟨gg, 0 + i * 7 + k, none⟩ = (edC x.es[i])[k]? := fun k hk => by
      have := World.ownsRow.cellAt h.own (i * 7 + k) (by omega)
      rw [Nat.zero_add, this, edsC_get x.es i k hi hk]
    exact ⟨hcell 0 (by omega), hcell 1 (by omega), hcell 2 (by omega), hcell 3 (by omega), hcell 4 (by omega), hcell 5 (by omega), hcell 6 (by omega)⟩
theorem info86 : (Tryz.prog.info? 86).map (·.size) = some 4 := by kernel_rfl
theorem ret86 {fn : Func} {p u : Tmp} (h : fn.results = #[.cell p 86, .tmp u]) {a : Act} {W : World} {R : Ending → World → Prop} (g : Nat) (v0 v1 v2 v3 : Value) (n : Int) (hp : a.tmps.getD p undef = .pointer (some ⟨g, 0, none⟩)) (hA : W.heap[g]? = some (.cells #[v0, v1, v2, v3] 86 (0, 0))) (hu : a.tmps.getD u undef = .int .i64 n) (hd : a.defers = [])
    (hR : R (.returned (.tuple #[.agg #[v0, v1, v2, v3], .int .i64 n])) W) : bodyPost Tryz.prog fn R .ret a W :=
  bodyPost_ret (by rw [results_cell_tmp h, hp, hu]; simp [asAddr, Result.andThen, run_loadVar_row W g 86 86 _ (0, 0) _ hA Tryz.underlying86 rfl info86]) hd hR
theorem below_setRow {n g : Nat} {w W : World} (h : Below n w W) (hg : n ≤ g) (hn : n ≤ w.heap.size) (cs : Array Value) : Below n w (W.setRow g cs) := ⟨h.os, h.tape, h.output, by simpa using h.size, fun k hk => (setRow_other _ _ _ _ (by omega)).trans (h.block k hk)⟩
set_option maxHeartbeats 1000000 in
theorem build_no (t : Tr) (hr : rightN t ≠ 0) (tv : Value) (w : World) (ht : Is w (fun _ => True) t tv) :
    Calls Tryz.prog 43 #[trV t tv] w fun e w' => e = .returned (.tuple #[nfaV 0 0 0 none 0 0, .int .i64 (rightN t : Int)]) ∧ Below w.heap.size w w' := by
  obtain ⟨w1, hw1⟩ : ∃ w1, w1 = (w.alloc (.cells #[.int .i64 t.kind, .int .u64 t.set.a, .int .u64 t.set.b, .int .u64 t.set.c, .int .u64 t.set.d, .int .i64 t.min, .int .i64 t.max, tv] 29)).alloc (.cells #[.int .i64 0, .int .i64 0, .int .i64 0, .slice none 0 0] 86) := ⟨_, rfl⟩
  have bl : Below w.heap.size w w1 := by rw [hw1]; exact ((Below.refl _ _).alloc (Nat.le_refl _) _).alloc (by simp) _
  have bx : Box w1 w.heap.size t tv := by rw [hw1]; exact (st.box_new w t tv).below (nf.below_alloc _ _)
  have br : w1.heap[w.heap.size + 1]? = some (.cells #[.int .i64 0, .int .i64 0, .int .i64 0, .slice none 0 0] 86 (0, 0)) := by
    rw [hw1]
    have := heap_alloc_new (w.alloc (.cells #[.int .i64 t.kind, .int .u64 t.set.a, .int .u64 t.set.b, .int .u64 t.set.c, .int .u64 t.set.d, .int .i64 t.min, .int .i64 t.max, tv] 29)) (.cells #[.int .i64 0, .int .i64 0, .int .i64 0, .slice none 0 0] 86)
    simpa using this
  have h26 := st.right_is t _ rfl tv w1 (ht.carry bl.size (fun _ _ _ => trivial) (fun b _ hlt => bl.block b hlt))
  have hq : ((rightN t : Int) == 0) = false := beq_eq_false_iff_ne.2 (by omega)
  have hq2 : ((rightN t : Int) != 0) = true := bne_iff_ne.2 (by omega)
  obtain ⟨r, hrr⟩ : ∃ r, r = rightN t := ⟨_, rfl⟩
  rw [← hrr] at h26 hq hq2 ⊢
  rw [hw1] at h26 bx
  have HW := (show Hid _ from hw1)
  have HB := (show Hid (Below w.heap.size w w1) from bl)
  have HR := (show Hid _ from br)
  clear hw1 ht bl br hrr hr
  go_enter Tryz.func43, Tryz.ntmps43
  go_wp2_with (first | (refine wpList_load_row rfl 29 (.tmp 1) rfl w.heap.size rfl 29 _ (0, 0) _ bx Tryz.underlying29 rfl info29 ?_) | (go_at_call 65; refine h26.mono ?_; rintro e w2 ⟨rfl, k2⟩; rw [← HW.out] at k2; have b3 : w2.heap[w.heap.size + 1]? = some (.cells #[.int .i64 0, .int .i64 0, .int .i64 0, .slice none 0 0] 86 (0, 0)) := (k2.block _ (Array.getElem?_eq_some_iff.1 HR.out).1).trans HR.out) | (refine wpList_store_row (by rfl) 86 (.tmp 2) (.tmp 10) (by rfl) (w.heap.size + 1) #[.int .i64 0, .int .i64 0, .int .i64 0, .slice none 0 0] (by rfl) (by rfl) 86 _ b3 info86 rfl (by simp [Value.oneCell']) ?_))
  refine ret86 Tryz.results43 (w.heap.size + 1) _ _ _ _ (r : Int) rfl (setRow_heap _ _ _ _ _ _ b3) rfl rfl ?_
  exact ⟨rfl, below_setRow (nf.chain HB.out k2) (Nat.le_succ _) (Nat.le_refl _) _⟩
end Go.Proofs.YthmecbonjkcnmaaGreat.nb

namespace Go.Proofs.YthmecbonjkcnmaaGreat.nb
open Go.ChangeShapes Go.WideShapes Go.ChangeAt Go.RowKit
open st (Tr Q4 nodesOf goods okNode Is Box nthT rightN)
open nf (Ed nfaV Eds)
set_option linter.unusedVariables false
set_option maxRecDepth 100000

theorem right_of (t : Tr) (h : rightN t = 0) : t.depth ≤ 30 ∧ t.nodes ≤ 512 ∧ t.good = true := by
  unfold rightN at h
  split at h
  · rename_i h1
    split at h
    · rename_i h2
      exact ⟨h1.1, h1.2, h2⟩
    · cases h
  · cases h
/-- what Build answers for an expression that may be -/
def Ans (t : Tr) (e : Ending) (w' : World) : Prop :=
  ((built t).full = true ∧ e = .returned (.tuple #[nfaV 0 0 0 none 0 0, .int .i64 80])) ∨
  ((built t).full = false ∧ ∃ o cap, e = .returned (.tuple #[nfaV ((built t).n : Int) 0 1 o (built t).es.length cap, .int .i64 0]) ∧ Eds w' o cap (built t).es)
set_option maxHeartbeats 2000000 in
theorem build_yes (t : Tr) (hr : rightN t = 0) (tv : Value) (w : World) (ht : Is w (fun _ => True) t tv) :
    Calls Tryz.prog 43 #[trV t tv] w fun e w' => Ans t e w' ∧ Below w.heap.size w w' := by
  obtain ⟨hd, hn, hg⟩ := right_of t hr
  obtain ⟨w1, hw1⟩ : ∃ w1, w1 = (w.alloc (.cells #[.int .i64 t.kind, .int .u64 t.set.a, .int .u64 t.set.b, .int .u64 t.set.c, .int .u64 t.set.d, .int .i64 t.min, .int .i64 t.max, tv] 29)).alloc (.cells #[.int .i64 0, .int .i64 0, .int .i64 0, .slice none 0 0] 86) := ⟨_, rfl⟩
  have bl : Below w.heap.size w w1 := by rw [hw1]; exact ((Below.refl _ _).alloc (Nat.le_refl _) _).alloc (by simp) _
  have bx : Box w1 w.heap.size t tv := by rw [hw1]; exact (st.box_new w t tv).below (nf.below_alloc _ _)
  have br : w1.heap[w.heap.size + 1]? = some (.cells #[.int .i64 0, .int .i64 0, .int .i64 0, .slice none 0 0] 86 (0, 0)) := by
    rw [hw1]
    have := heap_alloc_new (w.alloc (.cells #[.int .i64 t.kind, .int .u64 t.set.a, .int .u64 t.set.b, .int .u64 t.set.c, .int .u64 t.set.d, .int .i64 t.min, .int .i64 t.max, tv] 29)) (.cells #[.int .i64 0, .int .i64 0, .int .i64 0, .slice none 0 0] 86)
    simpa using this
  have h26 := st.right_is t _ rfl tv w1 (ht.carry bl.size (fun _ _ _ => trivial) (fun b _ hlt => bl.block b hlt))
  rw [hr] at h26
  have HBX := (show Hid (Box w1 w.heap.size t tv) from bx)
  have HTO := (show Hid (∀ W, Below w.heap.size w W → Is W (· < w.heap.size) t tv) from fun W h => (st.Is.old ht).carry h.size (fun _ p _ => p) (fun b _ hlt => h.block b hlt))
  have HR := (show Hid _ from br)
  rw [hw1] at h26 bx
  have HW := (show Hid _ from hw1)
  have HB := (show Hid (Below w.heap.size w w1) from bl)
  have HL := (show Hid (∀ (B g : Nat) (v : Value) (W : World), Bx W B g ⟨2, []⟩ v → B ≤ W.heap.size → Is W (· < B) t tv → Calls Tryz.prog 66 #[.pointer (some ⟨g, 0, none⟩), trV t tv, .int .i64 0, .int .i64 1] W fun e w' => e = .returned (.tuple #[]) ∧ ∃ v', Bx w' B g (built t) v' ∧ Mv g v v' W w') from fun B g v W h1 h2 h3 => lay_any t.depth t (Nat.le_refl _) hg 0 1 ⟨2, []⟩ 16000 ⟨by simp, by simp⟩ ⟨Nat.le_refl _, hn, by omega⟩ B g v W tv h1 h2 h3)
  have hmo := (lay_lim t.depth t (Nat.le_refl _) hg).add 0 1 ⟨2, []⟩ 16000 16000 (by omega) (by omega) ⟨by simp, by simp⟩
  have HFu := (show Hid (FullIs (built t)) from full_any (built t) (by have := hmo.n; show (layT t 0 1 ⟨2, []⟩).n ≤ _; omega) (by have := hmo.e; show (layT t 0 1 ⟨2, []⟩).es.length ≤ _; omega))
  clear hw1 ht bl br hr hmo hd hn hg
  unfold Ans
  generalize built t = z at *
  go_enter Tryz.func43, Tryz.ntmps43
  go_wp2_with (first | (refine wpList_load_row rfl 29 (.tmp 1) rfl w.heap.size rfl 29 _ (0, 0) _ bx Tryz.underlying29 rfl info29 ?_) | (go_at_call 65; refine h26.mono ?_; rintro e w2 ⟨rfl, k2⟩; clear h26 bx; rw [← HW.out] at k2; have HK2 := (show Hid (Below w.heap.size w w2) from nf.chain HB.out k2); have bx2 : Box (w2.alloc (.cells #[.int .i64 2, .int .i64 0, .int .i64 1, .slice none 0 0] 113)) w.heap.size t tv := (HBX.out.below k2).below (nf.below_alloc _ _); have c27 := HL.out w2.heap.size w2.heap.size (.slice none 0 0) (w2.alloc (.cells #[.int .i64 2, .int .i64 0, .int .i64 1, .slice none 0 0] 113)) ⟨Nat.le_refl _, heap_alloc_new w2 _, World.ownsRow_nil _ _ _ _⟩ (by simp) ((HTO.out _ (nf.chain HK2.out (nf.below_alloc _ _))).carry (Nat.le_refl _) (fun b hb _ => Nat.lt_of_lt_of_le hb HK2.out.size) (fun _ _ _ => rfl))) | (refine wpList_load_row rfl 29 (.tmp 1) rfl w.heap.size rfl 29 _ (0, 0) _ bx2 Tryz.underlying29 rfl info29 ?_) | (go_at_call 66; refine c27.mono ?_; rintro e w3 ⟨rfl, v3, hx3, m3⟩; clear c27; have c28 := HFu.out _ _ _ _ hx3))
  have g1 : w.heap.size + 1 < w1.heap.size := (Array.getElem?_eq_some_iff.1 HR.out).1
  have g2 : w1.heap.size ≤ w2.heap.size := k2.size
  have b3 : w3.heap[w.heap.size + 1]? = some (.cells #[.int .i64 0, .int .i64 0, .int .i64 0, .slice none 0 0] 86 (0, 0)) := by
    rw [m3.block _ (by simp; omega) (by omega) (by simp [Value.ownBlock]), (nf.below_alloc w2 _).block _ (by omega), k2.block _ g1]
    exact HR.out
  have HK3 := (show Hid (Below w.heap.size w w3) from ⟨m3.os.trans HK2.out.os, m3.tape.trans HK2.out.tape, m3.output.trans HK2.out.output, by have := m3.size; have := HK2.out.size; simp at *; omega, fun k hk => by
    rw [m3.block k (by simp; omega) (by omega) (by simp [Value.ownBlock]), (nf.below_alloc w2 _).block k (by omega)]
    exact HK2.out.block k hk⟩)
  have HX4 := (show Hid (∀ cs, Bx (w3.setRow (w.heap.size + 1) cs) w2.heap.size w2.heap.size z v3) from fun cs => ⟨hx3.bg, (setRow_other _ _ _ _ (by omega)).trans hx3.blk, ow.keep hx3.own fun k hk => setRow_other _ _ _ _ (fun e => by subst e; exact ow.type hx3.own b3 (by decide) hk.symm)⟩)
  have blk3 := hx3.blk
  obtain ⟨vo, vc, hv3, _⟩ := hx3.form
  subst hv3
  clear HL HFu HTO HBX hx3 m3 bx2 k2 HW HB HR HK2
  cases hfz : z.full with
  | true =>
    rw [hfz] at c28
    refine c28.mono ?_
    rintro e w4 ⟨rfl, hw4⟩
    subst hw4
    go_wp2_with (refine wpList_store_row (by rfl) 86 (.tmp 2) (.tmp 23) (by rfl) (w.heap.size + 1) #[.int .i64 0, .int .i64 0, .int .i64 0, .slice none 0 0] (by rfl) (by rfl) 86 _ b3 info86 rfl (by simp [Value.oneCell']) ?_)
    refine ret86 Tryz.results43 (w.heap.size + 1) _ _ _ _ 80 rfl (setRow_heap _ _ _ _ _ _ b3) rfl rfl ?_
    exact ⟨.inl ⟨hfz, rfl⟩, below_setRow HK3.out (Nat.le_succ _) (Nat.le_refl _) _⟩
  | false =>
    rw [hfz] at c28
    refine c28.mono ?_
    rintro e w4 ⟨rfl, hw4⟩
    subst hw4
    go_wp2_with (first | (refine wpList_load_row rfl 86 (.tmp 24) rfl w2.heap.size rfl 113 _ (0, 0) _ blk3 Tryz.underlying86 rfl info86 ?_) | (refine wpList_store_row (by rfl) 86 (.tmp 2) (.tmp 25) (by rfl) (w.heap.size + 1) #[.int .i64 (z.n : Int), .int .i64 0, .int .i64 1, .slice vo z.es.length vc] (by rfl) (by rfl) 86 _ b3 info86 rfl (by simp [Value.oneCell']) ?_))
    obtain ⟨o2, cap2, e2, hE⟩ := eds_of (HX4.out #[.int .i64 (z.n : Int), .int .i64 0, .int .i64 1, .slice vo z.es.length vc])
    cases e2
    refine ret86 Tryz.results43 (w.heap.size + 1) _ _ _ _ 0 rfl (setRow_heap _ _ _ _ _ _ b3) rfl rfl ?_
    exact ⟨.inr ⟨hfz, _, _, rfl, hE⟩, below_setRow HK3.out (Nat.le_succ _) (Nat.le_refl _) _⟩
end Go.Proofs.YthmecbonjkcnmaaGreat.nb
