/-
  Contracts over this program: nfa.Build of an expression that may be.
-/
import Derived.Test.YtfilndgbgdnpiaaKVk
namespace Go.Proofs.Ytfilndgbgdnpiaa.nb
open Go.ChangeShapes Go.WideShapes Go.ChangeAt Go.RowKit
open st (Tr Q4 nodesOf goods okNode Is Box nthT rightN)
open nf (Ed nfaV Eds)
set_option linter.unusedVariables false
set_option maxRecDepth 100000

theorem right_of (t : Tr) (h : rightN t = 0) : t.depth ≤ 30 ∧ t.nodes ≤ 512 ∧ t.good = true := by
  unfold rightN at h
  split at h
  · rename_i h1
    split at h
    · rename_i h2
      exact ⟨h1.1, h1.2, h2⟩
    · cases h
  · cases h
/-- what Build answers for an expression that may be -/
def Ans (t : Tr) (e : Ending) (w' : World) : Prop :=
  ((built t).full = true ∧ e = .returned (.tuple #[nfaV 0 0 0 none 0 0, .int .i64 80])) ∨
  ((built t).full = false ∧ ∃ o cap, e = .returned (.tuple #[nfaV ((built t).n : Int) 0 1 o (built t).es.length cap, .int .i64 0]) ∧ Eds w' o cap (built t).es)
set_option maxHeartbeats 2000000 in
theorem build_yes (t : Tr) (hr : rightN t = 0) (tv : Value) (w : World) (ht : Is w (fun _ => True) t tv) :
    Calls Try.prog 7 #[trV t tv] w fun e w' => Ans t e w' ∧ Below w.heap.size w w' := by
  obtain ⟨hd, hn, hg⟩ := right_of t hr
  obtain ⟨w1, hw1⟩ : ∃ w1, w1 = (w.alloc (.cells #[.int .i64 t.kind, .int .u64 t.set.a, .int .u64 t.set.b, .int .u64 t.set.c, .int .u64 t.set.d, .int .i64 t.min, .int .i64 t.max, tv] 28)).alloc (.cells #[.int .i64 0, .int .i64 0, .int .i64 0, .slice none 0 0] 31) := ⟨_, rfl⟩
  have bl : Below w.heap.size w w1 := by rw [hw1]; exact ((Below.refl _ _).alloc (Nat.le_refl _) _).alloc (by simp) _
  have bx : Box w1 w.heap.size t tv := by rw [hw1]; exact (st.box_new w t tv).below (nf.below_alloc _ _)
  have br : w1.heap[w.heap.size + 1]? = some (.cells #[.int .i64 0, .int .i64 0, .int .i64 0, .slice none 0 0] 31 (0, 0)) := by
    rw [hw1]
    have := heap_alloc_new (w.alloc (.cells #[.int .i64 t.kind, .int .u64 t.set.a, .int .u64 t.set.b, .int .u64 t.set.c, .int .u64 t.set.d, .int .i64 t.min, .int .i64 t.max, tv] 28)) (.cells #[.int .i64 0, .int .i64 0, .int .i64 0, .slice none 0 0] 31)
    simpa using this
  have h26 := st.right_is t _ rfl tv w1 (ht.carry bl.size (fun _ _ _ => trivial) (fun b _ hlt => bl.block b hlt))
  rw [hr] at h26
  have HBX := (show Hid (Box w1 w.heap.size t tv) from bx)
  have HTO := (show Hid (∀ W, Below w.heap.size w W → Is W (· < w.heap.size) t tv) from fun W h => (st.Is.old ht).carry h.size (fun _ p _ => p) (fun b _ hlt => h.block b hlt))
  have HR := (show Hid _ from br)
  rw [hw1] at h26 bx
  have HW := (show Hid _ from hw1)
  have HB := (show Hid (Below w.heap.size w w1) from bl)
  have HL := (show Hid (∀ (B g : Nat) (v : Value) (W : World), Bx W B g ⟨2, []⟩ v → B ≤ W.heap.size → Is W (· < B) t tv → Calls Try.prog 27 #[.pointer (some ⟨g, 0, none⟩), trV t tv, .int .i64 0, .int .i64 1] W fun e w' => e = .returned (.tuple #[]) ∧ ∃ v', Bx w' B g (built t) v' ∧ Mv g v v' W w') from fun B g v W h1 h2 h3 => lay_any t.depth t (Nat.le_refl _) hg 0 1 ⟨2, []⟩ 16000 ⟨by simp, by simp⟩ ⟨Nat.le_refl _, hn, by omega⟩ B g v W tv h1 h2 h3)
  have hmo := (lay_lim t.depth t (Nat.le_refl _) hg).add 0 1 ⟨2, []⟩ 16000 16000 (by omega) (by omega) ⟨by simp, by simp⟩
  have HFu := (show Hid (FullIs (built t)) from full_any (built t) (by have := hmo.n; show (layT t 0 1 ⟨2, []⟩).n ≤ _; omega) (by have := hmo.e; show (layT t 0 1 ⟨2, []⟩).es.length ≤ _; omega))
  clear hw1 ht bl br hr hmo hd hn hg
  unfold Ans
  generalize built t = z at *
  go_enter Try.func7, Try.ntmps7
  go_wp2_with (first | (refine wpList_load_row rfl 28 (.tmp 1) rfl w.heap.size rfl 28 _ (0, 0) _ bx Try.underlying28 rfl info28 ?_) | (go_at_call 26; refine h26.mono ?_; rintro e w2 ⟨rfl, k2⟩; clear h26 bx; rw [← HW.out] at k2; have HK2 := (show Hid (Below w.heap.size w w2) from nf.chain HB.out k2); have bx2 : Box (w2.alloc (.cells #[.int .i64 2, .int .i64 0, .int .i64 1, .slice none 0 0] 63)) w.heap.size t tv := (HBX.out.below k2).below (nf.below_alloc _ _); have c27 := HL.out w2.heap.size w2.heap.size (.slice none 0 0) (w2.alloc (.cells #[.int .i64 2, .int .i64 0, .int .i64 1, .slice none 0 0] 63)) ⟨Nat.le_refl _, heap_alloc_new w2 _, World.ownsRow_nil _ _ _ _⟩ (by simp) ((HTO.out _ (nf.chain HK2.out (nf.below_alloc _ _))).carry (Nat.le_refl _) (fun b hb _ => Nat.lt_of_lt_of_le hb HK2.out.size) (fun _ _ _ => rfl))) | (refine wpList_load_row rfl 28 (.tmp 1) rfl w.heap.size rfl 28 _ (0, 0) _ bx2 Try.underlying28 rfl info28 ?_) | (go_at_call 27; refine c27.mono ?_; rintro e w3 ⟨rfl, v3, hx3, m3⟩; clear c27; have c28 := HFu.out _ _ _ _ hx3))
  have g1 : w.heap.size + 1 < w1.heap.size := (Array.getElem?_eq_some_iff.1 HR.out).1
  have g2 : w1.heap.size ≤ w2.heap.size := k2.size
  have b3 : w3.heap[w.heap.size + 1]? = some (.cells #[.int .i64 0, .int .i64 0, .int .i64 0, .slice none 0 0] 31 (0, 0)) := by
    rw [m3.block _ (by simp; omega) (by omega) (by simp [Value.ownBlock]), (nf.below_alloc w2 _).block _ (by omega), k2.block _ g1]
    exact HR.out
  have HK3 := (show Hid (Below w.heap.size w w3) from ⟨m3.os.trans HK2.out.os, m3.tape.trans HK2.out.tape, m3.output.trans HK2.out.output, by have := m3.size; have := HK2.out.size; simp at *; omega, fun k hk => by
    rw [m3.block k (by simp; omega) (by omega) (by simp [Value.ownBlock]), (nf.below_alloc w2 _).block k (by omega)]
    exact HK2.out.block k hk⟩)
  have HX4 := (show Hid (∀ cs, Bx (w3.setRow (w.heap.size + 1) cs) w2.heap.size w2.heap.size z v3) from fun cs => ⟨hx3.bg, (setRow_other _ _ _ _ (by omega)).trans hx3.blk, ow.keep hx3.own fun k hk => setRow_other _ _ _ _ (fun e => by subst e; exact ow.type hx3.own b3 (by decide) hk.symm)⟩)
  have blk3 := hx3.blk
  obtain ⟨vo, vc, hv3, _⟩ := hx3.form
  subst hv3
  clear HL HFu HTO HBX hx3 m3 bx2 k2 HW HB HR HK2
  cases hfz : z.full with
  | true =>
    rw [hfz] at c28
    refine c28.mono ?_
    rintro e w4 ⟨rfl, hw4⟩
    subst hw4
    go_wp2_with (refine wpList_store_row (by rfl) 31 (.tmp 2) (.tmp 23) (by rfl) (w.heap.size + 1) #[.int .i64 0, .int .i64 0, .int .i64 0, .slice none 0 0] (by rfl) (by rfl) 31 _ b3 info31 rfl (by simp [Value.oneCell']) ?_)
    refine ret31 Try.results7 (w.heap.size + 1) _ _ _ _ 80 rfl (setRow_heap _ _ _ _ _ _ b3) rfl rfl ?_
    exact ⟨.inl ⟨hfz, rfl⟩, below_setRow HK3.out (Nat.le_succ _) (Nat.le_refl _) _⟩
  | false =>
    rw [hfz] at c28
    refine c28.mono ?_
    rintro e w4 ⟨rfl, hw4⟩
    subst hw4
    go_wp2_with (first | (refine wpList_load_row rfl 31 (.tmp 24) rfl w2.heap.size rfl 63 _ (0, 0) _ blk3 Try.underlying31 rfl info31 ?_) | (refine wpList_store_row (by rfl) 31 (.tmp 2) (.tmp 25) (by rfl) (w.heap.size + 1) #[.int .i64 (z.n : Int), .int .i64 0, .int .i64 1, .slice vo z.es.length vc] (by rfl) (by rfl) 31 _ b3 info31 rfl (by simp [Value.oneCell']) ?_))
    obtain ⟨o2, cap2, e2, hE⟩ := eds_of (HX4.out #[.int .i64 (z.n : Int), .int .i64 0, .int .i64 1, .slice vo z.es.length vc])
    cases e2
    refine ret31 Try.results7 (w.heap.size + 1) _ _ _ _ 0 rfl (setRow_heap _ _ _ _ _ _ b3) rfl rfl ?_
    exact ⟨.inr ⟨hfz, _, _, rfl, hE⟩, below_setRow HK3.out (Nat.le_succ _) (Nat.le_refl _) _⟩
end Go.Proofs.Ytfilndgbgdnpiaa.nb
