/-
  Over this program: a crowd in memory; it is made (nfa.newCrowd), a state is added (crowd.add).
-/
import Derived.Test.YthknhbmibmndoaaNc
import Derived.Test.YthknhbmibmndoaaDj
namespace Go.Proofs.Ythknhbmibmndoaa.nf
open Go.RowKit Go.Shelf
set_option linter.unusedVariables false
open df (Kp Owns)

/-- an append of one int: where the new row lies -/
theorem append_int (w : World) (ty : TypeId) (B : Nat) (v : Value) (l : List Int) (hown : Owns w B v l) (g : Nat) (y : Int) (hc : w.cell? ⟨g, 0, none⟩ = some (.int .i64 y)) (hsm : l.length ≤ 1000000) (hB : B ≤ w.heap.size) :
    ∃ g' cap' w', (Builtin.append_ #[25, 25] ty #[v, .slice (some ⟨g, 0, none⟩) 1 1]).run Try.prog w = .ok (.slice (some ⟨g', 0, none⟩) (l.length + 1) cap') w' ∧ Owns w' B (.slice (some ⟨g', 0, none⟩) (l.length + 1) cap') (l ++ [y]) ∧ w.grownBy w' v.ownBlock ∧ (some g' = v.ownBlock ∨ w.heap.size ≤ g') := by
  obtain ⟨i0, hi, hz0, hz1, hz2⟩ := info_parts df.info3
  have hnews : ∀ j u, ([.int .i64 y] : List Value)[j]? = some u → w.cell? ((⟨g, 0, none⟩ : Addr).add j) = some u := fun j u hu => by
    rcases j with _ | j
    · simp at hu
      subst hu
      simpa [Addr.add] using hc
    · simp at hu
  obtain ⟨v', w', hr, h2, h3, h4⟩ := run_append_own (P := Try.prog) w B 25 ty 3 i0 _ 1 8 Try.underlying25 hi hz0 hz1 hz2 rfl (by decide) v l.length _ hown ⟨g, 0, none⟩ 1 1 [.int .i64 y] rfl hnews (by simp [Value.oneCell']) (by unfold maxLen; omega) (by omega) hB
  obtain ⟨g', cap', rfl⟩ := ownsRow_succ h2
  refine ⟨g', cap', w', hr, by simpa [Owns] using h2, h3, ?_⟩
  have hl2 : ([.int .i64 y] : List Value).length = 1 * i0.size := by rw [hz1]; rfl
  rcases hown.2 with ⟨rfl, h0⟩ | ⟨gg, cap, cur, rfl, hbg, hg, hnc, hcm, hcs, htake⟩
  · have hr2 := run_append_nil (P := Try.prog) w 25 ty 3 i0 _ Try.underlying25 hi hz0 ⟨g, 0, none⟩ 1 1 [.int .i64 y] hl2 hnews (by omega) (by omega) (by rw [hz2]; omega)
    rw [hr2] at hr
    injection hr with e1 e2
    simp at e1
    exact .inr (by omega)
  · by_cases hroom : l.length + 1 ≤ cap
    · have hfit : l.length * i0.size + ([.int .i64 y] : List Value).length ≤ cur.size := by rw [hl2, hcs, hz1, ← Nat.add_mul]; exact Nat.mul_le_mul_right _ hroom
      have hr2 := run_append_room (P := Try.prog) w 25 ty 3 i0 Try.underlying25 hi gg l.length cap cur hg ⟨g, 0, none⟩ 1 1 [.int .i64 y] hl2 hnews (by simp [Value.oneCell']) hroom hfit
      rw [hr2] at hr
      injection hr with e1 e2
      simp at e1
      exact .inl (by simp [Value.ownBlock, e1.1])
    · have hr2 := run_append_grow (P := Try.prog) w 25 ty 3 i0 _ Try.underlying25 hi hz0 ⟨gg, 0, none⟩ l.length cap _ (by rw [hz1]; exact hown.1) (hown.cells (g := gg) rfl) ⟨g, 0, none⟩ 1 1 [.int .i64 y] hl2 hnews (by omega) (by omega) (growslice_fits (by omega) (by rw [hz2]; omega))
      rw [hr2] at hr
      injection hr with e1 e2
      simp at e1
      exact .inr (by omega)
theorem wpList_append_at {ops : Array Oper} {rest : List Oper} {o : Oper} {a : Act} {w : World} {Q : Exit → Act → World → Prop} (hgd : o.guard = none) (s x : Operand)
    (ho : o.op = Op.call { callee := Callee.builtin Builtin.append, args := #[s, x], argTypes := #[25, 25] }) (B : Nat) (v : Value) (l : List Int) (y : Int) (g : Nat)
    (hs : a.eval s = v) (hx : a.eval x = .slice (some ⟨g, 0, none⟩) 1 1) (hown : Owns w B v l) (hc : w.cell? ⟨g, 0, none⟩ = some (.int .i64 y)) (hl : l.length ≤ 1000000) (hB : B ≤ w.heap.size)
    (hK : ∀ g' cap' w', Owns w' B (.slice (some ⟨g', 0, none⟩) (l.length + 1) cap') (l ++ [y]) → w.grownBy w' v.ownBlock → (some g' = v.ownBlock ∨ w.heap.size ≤ g') → wpList Try.prog ops Q rest (a.put o.dst (.slice (some ⟨g', 0, none⟩) (l.length + 1) cap')) w') : wpList Try.prog ops Q (o :: rest) a w := by
  refine wpList_plain hgd fun K hK' => ?_
  obtain ⟨g', cap', w', hr, h2, h3, h4⟩ := append_int w o.type B v l hown g y hc hl hB
  unfold Oper.wp execOp
  simp only [ho, resolve, invoke, builtin, Sem.run_bind, Sem.run_pure, Result.andThen_ok, List.map_toArray, List.map_cons, List.map_nil, hs, hx, hr]
  exact hK' _ _ (hK g' cap' w' h2 h3 h4)

def bcells (l : List Bool) : Array Value := (l.map fun x => Value.bool x).toArray
def BRow (w : World) (g : Nat) (l : List Bool) : Prop := w.heap[g]? = some (.cells (bcells l) 4 (0, 0))
section
variable {w w' : World} {g : Nat} {l : List Bool}
theorem BRow.lt (h : BRow w g l) : g < w.heap.size := (Array.getElem?_eq_some_iff.1 h).1
theorem BRow.cell (h : BRow w g l) (i : Nat) (hi : i < l.length) : w.cell? ⟨g, i, none⟩ = some (.bool l[i]) := by
  rw [Lib.cell_of_heap h]
  simp [bcells, hi]
theorem BRow.fz (h : BRow w g l) (i : Nat) : w.frozen? ⟨g, i, none⟩ = false := Lib.frozen_of_heap h i
theorem BRow.put (h : BRow w g l) (i : Nat) (x : Bool) : BRow (w.setCell ⟨g, i, none⟩ (.bool x)) g (l.set i x) := by
  unfold BRow
  rw [set_heap w g _ _ i _ h]
  congr 2
  simp [bcells]
end
theorem row_type {w : World} {B : Nat} {v : Value} {l : List Int} (h : Owns w B v l) {g : Nat} {cs : Array Value} {t : TypeId} {fr : Nat × Nat} (hg : w.heap[g]? = some (.cells cs t fr)) (ht : t ≠ 3) : some g ≠ v.ownBlock := by
  intro e
  rcases h.2 with ⟨rfl, _⟩ | ⟨gg, cap, cur, rfl, _, hgg, _⟩
  · cases e
  · cases e
    rw [hg] at hgg
    cases hgg
    exact ht rfl

structure Crowd (X : Nat → Prop) (W : World) (B c sb n : Nat) (m : List Bool) (va vw : Value) (l q : List Int) : Prop where
  blk : W.heap[c]? = some (.cells #[.slice (some ⟨sb, 0, none⟩) n n, va, vw] 54 (0, 0))
  seen : BRow W sb m
  ml : m.length = n
  all : Owns W B va l
  wait : Owns W B vw q
  two : ∀ g, va.ownBlock = some g → vw.ownBlock ≠ some g
  bc : B ≤ c
  bs : B ≤ sb
  ap : ∀ b, X b → b < W.heap.size ∧ b ≠ c ∧ b ≠ sb ∧ some b ≠ va.ownBlock ∧ some b ≠ vw.ownBlock
section
variable {X : Nat → Prop} {W W' : World} {B c sb n : Nat} {m : List Bool} {va vw : Value} {l q : List Int}
theorem Crowd.c0 (h : Crowd X W B c sb n m va vw l q) : W.cell? ⟨c, 0, none⟩ = some (.slice (some ⟨sb, 0, none⟩) n n) := by rw [Lib.cell_of_heap h.blk]; rfl
theorem Crowd.c1 (h : Crowd X W B c sb n m va vw l q) : W.cell? ⟨c, 1, none⟩ = some va := by rw [Lib.cell_of_heap h.blk]; rfl
theorem Crowd.c2 (h : Crowd X W B c sb n m va vw l q) : W.cell? ⟨c, 2, none⟩ = some vw := by rw [Lib.cell_of_heap h.blk]; rfl
theorem Crowd.fz (h : Crowd X W B c sb n m va vw l q) (i : Nat) : W.frozen? ⟨c, i, none⟩ = false := Lib.frozen_of_heap h.blk i
theorem Crowd.lt (h : Crowd X W B c sb n m va vw l q) : c < W.heap.size := (Array.getElem?_eq_some_iff.1 h.blk).1
theorem Crowd.ne (h : Crowd X W B c sb n m va vw l q) : c ≠ sb := fun e => by
  have h1 := h.blk
  have h2 := h.seen
  unfold BRow at h2
  rw [e] at h1
  rw [h1] at h2
  injection h2 with h3
  injection h3 with _ h4
  simp at h4
theorem Crowd.size (h : Crowd X W B c sb n m va vw l q) : B ≤ W.heap.size := Nat.le_trans h.bc (Nat.le_of_lt h.lt)
theorem Crowd.nac (h : Crowd X W B c sb n m va vw l q) : some c ≠ va.ownBlock := row_type h.all h.blk (by decide)
theorem Crowd.nwc (h : Crowd X W B c sb n m va vw l q) : some c ≠ vw.ownBlock := row_type h.wait h.blk (by decide)
theorem Crowd.nas (h : Crowd X W B c sb n m va vw l q) : some sb ≠ va.ownBlock := row_type h.all h.seen (by decide)
theorem Crowd.nws (h : Crowd X W B c sb n m va vw l q) : some sb ≠ vw.ownBlock := row_type h.wait h.seen (by decide)
/-- other blocks turned, or new ones -/
theorem Crowd.keep (h : Crowd X W B c sb n m va vw l q) (hs : W.heap.size ≤ W'.heap.size) (h1 : W'.heap[c]? = W.heap[c]?) (h2 : W'.heap[sb]? = W.heap[sb]?) (h3 : ∀ g, va.ownBlock = some g → W'.heap[g]? = W.heap[g]?) (h4 : ∀ g, vw.ownBlock = some g → W'.heap[g]? = W.heap[g]?) : Crowd X W' B c sb n m va vw l q := by
  have key : ∀ (v : Value) (l : List Int), Owns W B v l → (∀ g, v.ownBlock = some g → W'.heap[g]? = W.heap[g]?) → Owns W' B v l := fun v l ho hh => by
    refine ⟨ho.1, ?_⟩
    rcases ho.2 with h | ⟨g, cap, cur, rfl, hb, hg, hr⟩
    · exact .inl h
    · exact .inr ⟨g, cap, cur, rfl, hb, (hh g rfl).trans hg, hr⟩
  exact ⟨h1.trans h.blk, h2.trans h.seen, h.ml, key _ _ h.all h3, key _ _ h.wait h4, h.two, h.bc, h.bs, fun b hb => by obtain ⟨a1, a2⟩ := h.ap b hb; exact ⟨Nat.lt_of_lt_of_le a1 hs, a2⟩⟩
theorem own_lt {v : Value} (h : Owns W B v l) {g : Nat} (e : v.ownBlock = some g) : g < W.heap.size := by
  rcases h.2 with ⟨rfl, _⟩ | ⟨gg, cap, cur, rfl, _, hgg, _⟩
  · cases e
  · cases e; exact (Array.getElem?_eq_some_iff.1 hgg).1
theorem Crowd.later (h : Crowd X W B c sb n m va vw l q) (b : Below W.heap.size W W') : Crowd X W' B c sb n m va vw l q :=
  h.keep b.size (b.block _ h.lt) (b.block _ h.seen.lt) (fun g e => b.block g (own_lt h.all e)) (fun g e => b.block g (own_lt h.wait e))
theorem Crowd.alloc (h : Crowd X W B c sb n m va vw l q) (o : Obj) : Crowd X (W.alloc o) B c sb n m va vw l q := h.later (below_alloc _ _)
theorem Crowd.mark (h : Crowd X W B c sb n m va vw l q) (s : Nat) (x : Bool) : Crowd X (W.setCell ⟨sb, s, none⟩ (.bool x)) B c sb n (m.set s x) va vw l q := by
  have hh : ∀ k, k ≠ sb → (W.setCell ⟨sb, s, none⟩ (.bool x)).heap[k]? = W.heap[k]? := fun k hk => Below.heap_setCell _ _ _ k hk
  have h1 := h.keep (W' := W) (Nat.le_refl _) rfl rfl (fun _ _ => rfl) (fun _ _ => rfl)
  have key : ∀ (v : Value) (l : List Int), Owns W B v l → some sb ≠ v.ownBlock → Owns (W.setCell ⟨sb, s, none⟩ (.bool x)) B v l := fun v l ho hn => by
    refine ⟨ho.1, ?_⟩
    rcases ho.2 with h | ⟨g, cap, cur, rfl, hb, hg, hr⟩
    · exact .inl h
    · exact .inr ⟨g, cap, cur, rfl, hb, (hh g (fun e => hn (by rw [← e]; rfl))).trans hg, hr⟩
  exact ⟨(hh c h.ne).trans h.blk, h.seen.put s x, by rw [List.length_set]; exact h.ml, key _ _ h.all h.nas, key _ _ h.wait h.nws, h.two, h.bc, h.bs, fun b hb => by obtain ⟨a1, a2⟩ := h.ap b hb; exact ⟨by simpa using a1, a2⟩⟩
theorem Crowd.putA (h : Crowd X W B c sb n m va vw l q) {l' : List Int} {g' k' cap' : Nat} (ho : Owns W' B (.slice (some ⟨g', 0, none⟩) k' cap') l') (hg : W.grownBy W' va.ownBlock) (hw : some g' = va.ownBlock ∨ W.heap.size ≤ g') :
    Crowd X (W'.setCell ⟨c, 1, none⟩ (.slice (some ⟨g', 0, none⟩) k' cap')) B c sb n m (.slice (some ⟨g', 0, none⟩) k' cap') vw l' q := by
  have b1 : W'.heap[c]? = some (.cells #[.slice (some ⟨sb, 0, none⟩) n n, va, vw] 54 (0, 0)) := (hg.block c h.lt h.nac).trans h.blk
  have b2 : W'.heap[sb]? = _ := (hg.block sb h.seen.lt h.nas).trans h.seen
  have hh : ∀ k, k ≠ c → (W'.setCell ⟨c, 1, none⟩ (.slice (some ⟨g', 0, none⟩) k' cap')).heap[k]? = W'.heap[k]? := fun k hk => Below.heap_setCell _ _ _ k hk
  have key : ∀ (v : Value) (l : List Int), Owns W' B v l → some c ≠ v.ownBlock → Owns (W'.setCell ⟨c, 1, none⟩ (.slice (some ⟨g', 0, none⟩) k' cap')) B v l := fun v l ho hn => by
    refine ⟨ho.1, ?_⟩
    rcases ho.2 with h | ⟨g, cap, cur, rfl, hb, hg, hr⟩
    · exact .inl h
    · exact .inr ⟨g, cap, cur, rfl, hb, (hh g (fun e => hn (by rw [← e]; rfl))).trans hg, hr⟩
  have hwt : Owns W' B vw q := by
    refine ⟨h.wait.1, ?_⟩
    rcases h.wait.2 with h0 | ⟨g, cap, cur, rfl, hb, hgg, hr⟩
    · exact .inl h0
    · exact .inr ⟨g, cap, cur, rfl, hb, (hg.block g (Array.getElem?_eq_some_iff.1 hgg).1 (fun e => h.two g e.symm rfl)).trans hgg, hr⟩
  refine ⟨?_, (hh sb h.ne.symm).trans b2, h.ml, key _ _ ho (row_type ho b1 (by decide)), key _ _ hwt (row_type hwt b1 (by decide)), ?_, h.bc, h.bs, fun b hb => ?_⟩
  · rw [set_heap _ _ _ _ 1 _ b1]; rfl
  · intro g e e2
    simp [Value.ownBlock] at e
    subst e
    rcases hw with e3 | e3
    · exact h.two _ e3.symm e2
    · have := own_lt h.wait e2; omega
  · obtain ⟨a1, a2, a3, a4, a5⟩ := h.ap b hb
    refine ⟨by have := hg.size; simp; omega, a2, a3, ?_, a5⟩
    intro e
    simp [Value.ownBlock] at e
    subst e
    rcases hw with e3 | e3
    · exact a4 e3
    · omega
theorem Crowd.putW (h : Crowd X W B c sb n m va vw l q) {q' : List Int} {g' k' cap' : Nat} (ho : Owns W' B (.slice (some ⟨g', 0, none⟩) k' cap') q') (hg : W.grownBy W' vw.ownBlock) (hw : some g' = vw.ownBlock ∨ W.heap.size ≤ g') :
    Crowd X (W'.setCell ⟨c, 2, none⟩ (.slice (some ⟨g', 0, none⟩) k' cap')) B c sb n m va (.slice (some ⟨g', 0, none⟩) k' cap') l q' := by
  have b1 : W'.heap[c]? = some (.cells #[.slice (some ⟨sb, 0, none⟩) n n, va, vw] 54 (0, 0)) := (hg.block c h.lt h.nwc).trans h.blk
  have b2 : W'.heap[sb]? = _ := (hg.block sb h.seen.lt h.nws).trans h.seen
  have hh : ∀ k, k ≠ c → (W'.setCell ⟨c, 2, none⟩ (.slice (some ⟨g', 0, none⟩) k' cap')).heap[k]? = W'.heap[k]? := fun k hk => Below.heap_setCell _ _ _ k hk
  have key : ∀ (v : Value) (l : List Int), Owns W' B v l → some c ≠ v.ownBlock → Owns (W'.setCell ⟨c, 2, none⟩ (.slice (some ⟨g', 0, none⟩) k' cap')) B v l := fun v l ho hn => by
    refine ⟨ho.1, ?_⟩
    rcases ho.2 with h | ⟨g, cap, cur, rfl, hb, hg, hr⟩
    · exact .inl h
    · exact .inr ⟨g, cap, cur, rfl, hb, (hh g (fun e => hn (by rw [← e]; rfl))).trans hg, hr⟩
  have hwt : Owns W' B va l := by
    refine ⟨h.all.1, ?_⟩
    rcases h.all.2 with h0 | ⟨g, cap, cur, rfl, hb, hgg, hr⟩
    · exact .inl h0
    · exact .inr ⟨g, cap, cur, rfl, hb, (hg.block g (Array.getElem?_eq_some_iff.1 hgg).1 (fun e => h.two g rfl e.symm)).trans hgg, hr⟩
  refine ⟨?_, (hh sb h.ne.symm).trans b2, h.ml, key _ _ hwt (row_type hwt b1 (by decide)), key _ _ ho (row_type ho b1 (by decide)), ?_, h.bc, h.bs, fun b hb => ?_⟩
  · rw [set_heap _ _ _ _ 2 _ b1]; rfl
  · intro g e e2
    simp [Value.ownBlock] at e2
    subst e2
    rcases hw with e3 | e3
    · exact h.two _ e e3.symm
    · have := own_lt h.all e; omega
  · obtain ⟨a1, a2, a3, a4, a5⟩ := h.ap b hb
    refine ⟨by have := hg.size; simp; omega, a2, a3, a4, ?_⟩
    intro e
    simp [Value.ownBlock] at e
    subst e
    rcases hw with e3 | e3
    · exact a5 e3
    · omega
end
end Go.Proofs.Ythknhbmibmndoaa.nf
