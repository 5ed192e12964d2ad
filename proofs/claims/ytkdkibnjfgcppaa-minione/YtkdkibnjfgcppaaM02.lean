/-
  Texts put together: A walk in memory, as it goes on: what stands for states, rows; plain: one byte more. Contracts over this program: a state is left by each byte (leave). Over this program: operations that put a row of 256 numbers behind others, one by one.
-/
import Derived.Test.YtkdkibnjfgcppaaKMn
import Derived.Great.BuildSlice
namespace Go.Proofs.Ytkdkibnjfgcppaa.mi
open Go.ChangeShapes Go.WideShapes Go.ChangeAt Go.RowKit Go.Shelf Go.Maps
set_option linter.unusedVariables false

abbrev ivs (r : List Int) : List Value := r.map fun n : Int => Value.int .i64 n
def flat (rows : List (List Int)) : List Value := rows.flatMap ivs
/-- the languages of what stands for states -/
noncomputable def lgs (d : df.Dfa) (S : List Int) : List Lg := S.map fun s : Int => (dm d).lang (some s.toNat)
/-- a walk, with all that it leads to -/
structure Wst (d : df.Dfa) (cs : Array Value) (K : Nat) (w0 w : World) (gw gp gn : Nat) (F : List Nat) (nums : List Int) (sv rv : Value) (S : List Int) (rows : List (List Int)) : Prop where
  box : WBox w gw cs (.slice (some ⟨gp, 0, none⟩) F.length F.length) (.slice (some ⟨gn, 0, none⟩) F.length F.length) sv rv
  parts : NRow w gp F
  nrow : ZRow w gn nums
  st : df.Owns w K sv S
  rw : w.ownsRow K 89 256 rv rows.length (flat rows)
  a1 : gw ≠ gp ∧ gw ≠ gn ∧ gp ≠ gn ∧ K ≤ gw ∧ K ≤ gp ∧ K ≤ gn
  a2 : ∀ g, sv.ownBlock = some g → g ≠ gw ∧ g ≠ gp ∧ g ≠ gn ∧ rv.ownBlock ≠ some g
  a3 : ∀ g, rv.ownBlock = some g → g ≠ gw ∧ g ≠ gp ∧ g ≠ gn
  bel : Below K w0 w
  k0 : K ≤ w0.heap.size
theorem own_keep {w w' : World} {K t sz : Nat} {v : Value} {n : Nat} {xs : List Value} (h : w.ownsRow K t sz v n xs) (hk : ∀ g, v.ownBlock = some g → w'.heap[g]? = w.heap[g]?) : w'.ownsRow K t sz v n xs := by
  refine ⟨h.1, ?_⟩
  rcases h.2 with h2 | ⟨g, cap, cur, e, h3, h4, h5⟩
  · exact .inl h2
  · exact .inr ⟨g, cap, cur, e, h3, (hk g (by rw [e]; rfl)).trans h4, h5⟩
theorem own_lt {w : World} {K t sz : Nat} {v : Value} {n : Nat} {xs : List Value} (h : w.ownsRow K t sz v n xs) {g : Nat} (hg : v.ownBlock = some g) : K ≤ g ∧ g < w.heap.size := by
  rcases h.2 with ⟨rfl, _⟩ | ⟨g', cap, cur, e, h3, h4, h5⟩
  · cases hg
  · rw [e] at hg
    cases hg
    exact ⟨h3, (Array.getElem?_eq_some_iff.1 h4).1⟩
section
variable {d : df.Dfa} {cs : Array Value} {K : Nat} {w0 w w' : World} {gw gp gn : Nat} {F : List Nat} {nums : List Int} {sv rv : Value} {S : List Int} {rows : List (List Int)}
/-- what keeps all of the walk's blocks -/
theorem Wst.keep (h : Wst d cs K w0 w gw gp gn F nums sv rv S rows) (hk : ∀ g, g < w.heap.size → w'.heap[g]? = w.heap[g]?) (hb : Below K w0 w') : Wst d cs K w0 w' gw gp gn F nums sv rv S rows :=
  ⟨h.box.keep (hk _ h.box.lt), h.parts.keep (hk _ h.parts.lt), (hk _ h.nrow.lt).trans h.nrow, own_keep h.st (fun g hg => hk g (own_lt h.st hg).2), own_keep h.rw (fun g hg => hk g (own_lt h.rw hg).2), h.a1, h.a2, h.a3, hb, h.k0⟩
theorem Wst.later (h : Wst d cs K w0 w gw gp gn F nums sv rv S rows) (b : Below w.heap.size w w') : Wst d cs K w0 w' gw gp gn F nums sv rv S rows :=
  h.keep (fun g hg => b.block g hg) (h.bel.trans ⟨b.os, b.tape, b.output, b.size, fun k hk => b.block k (by have := h.bel.size; have := h.k0; omega)⟩)
/-- a store beside the walk -/
theorem Wst.beside (h : Wst d cs K w0 w gw gp gn F nums sv rv S rows) {g : Nat} (hg : g ≠ gw ∧ g ≠ gp ∧ g ≠ gn ∧ sv.ownBlock ≠ some g ∧ rv.ownBlock ≠ some g ∧ K ≤ g) (i : Nat) (v : Value) : Wst d cs K w0 (w.setCell ⟨g, i, none⟩ v) gw gp gn F nums sv rv S rows := by
  have hk : ∀ k, k ≠ g → (w.setCell ⟨g, i, none⟩ v).heap[k]? = w.heap[k]? := fun k hk => Below.heap_setCell _ _ _ _ (fun e => hk e)
  exact ⟨h.box.keep (hk _ (fun e => hg.1 e.symm)), h.parts.keep (hk _ (fun e => hg.2.1 e.symm)), (hk _ (fun e => hg.2.2.1 e.symm)).trans h.nrow, own_keep h.st (fun k e => hk k (fun e2 => hg.2.2.2.1 (e2 ▸ e))), own_keep h.rw (fun k e => hk k (fun e2 => hg.2.2.2.2.1 (e2 ▸ e))), h.a1, h.a2, h.a3, h.bel.setCell (p := ⟨g, i, none⟩) (by exact hg.2.2.2.2.2) _, h.k0⟩
/-- a part gets its number -/
theorem Wst.num (h : Wst d cs K w0 w gw gp gn F nums sv rv S rows) (i : Nat) (v : Int) : Wst d cs K w0 (w.setCell ⟨gn, i, none⟩ (.int .i64 v)) gw gp gn F (nums.set i v) sv rv S rows := by
  have hk : ∀ k, k ≠ gn → (w.setCell ⟨gn, i, none⟩ (.int .i64 v)).heap[k]? = w.heap[k]? := fun k hk => Below.heap_setCell _ _ _ _ (fun e => hk e)
  exact ⟨h.box.keep (hk _ h.a1.2.1), h.parts.keep (hk _ h.a1.2.2.1), h.nrow.put i v, own_keep h.st (fun k e => hk k (h.a2 k e).2.2.1), own_keep h.rw (fun k e => hk k (h.a3 k e).2.2), h.a1, h.a2, h.a3, h.bel.setCell (p := ⟨gn, i, none⟩) (by exact h.a1.2.2.2.2.2) _, h.k0⟩
end

/-! plain: one byte more -/
/-- a row, so far -/
def rowZ (r : List Int) : List Int := r ++ List.replicate (256 - r.length) 0
theorem rowZ_len (r : List Int) (h : r.length ≤ 256) : (rowZ r).length = 256 := by simp [rowZ]; omega
theorem rowZ_nil : rowZ [] = zr := rfl
theorem rowZ_all (r : List Int) (h : r.length = 256) : rowZ r = r := by simp [rowZ, h]
theorem rowZ_set (r : List Int) (v : Int) (h : r.length < 256) : (rowZ r).set r.length v = rowZ (r ++ [v]) := by
  unfold rowZ
  rw [List.set_append_right _ _ (Nat.le_refl _), Nat.sub_self]
  rw [show 256 - r.length = (256 - (r ++ [v]).length) + 1 by simp; omega, List.replicate_succ, List.set_cons_zero, List.append_assoc]
  rfl
theorem rowN_next (sts : List Lg) (L : Lg) (k : Nat) : rowN sts L (k + 1) = ((met (rowN sts L k).1 (dv L (by8 k))).1, (rowN sts L k).2 ++ [(met (rowN sts L k).1 (dv L (by8 k))).2]) := rfl
end Go.Proofs.Ytkdkibnjfgcppaa.mi

namespace Go.Proofs.Ytkdkibnjfgcppaa.mi
open Go.ChangeShapes Go.WideShapes Go.ChangeAt Go.RowKit Go.Shelf Go.Maps
set_option linter.unusedVariables false

theorem extract_cs {c cs : Array Value} {p n s r : Value} (h : WCells c cs p n s r) (hs : cs.size = 258) : c.extract 0 256 = cs.extract 0 256 := by
  apply Array.ext_getElem?
  intro i
  have h1 := h.size
  rw [Array.getElem?_extract, Array.getElem?_extract]
  by_cases hi : i < 256
  · rw [if_pos (by omega), if_pos (by omega), Nat.zero_add]
    exact h.d i (by omega)
  · rw [if_neg (by omega), if_neg (by omega)]
theorem wpList_load22w {ops : Array Oper} {rest : List Oper} {oo : Oper} {a : Act} {w : World} {Q : Exit → Act → World → Prop} (hgd : oo.guard = none) (x : Operand) (ho : oo.op = .load 22 x)
    (g : Nat) (hx : a.eval x = .pointer (some ⟨g, 0, none⟩)) (cs : Array Value) (p n s r : Value) (hg : WBox w g cs p n s r) (hs : cs.size = 258)
    (h : wpList Try.prog ops Q rest (a.put oo.dst (.agg (cs.extract 0 256))) w) : wpList Try.prog ops Q (oo :: rest) a w := by
  obtain ⟨c, hc, hk⟩ := hg
  have hr := df.run_load_part (P := Try.prog) w g 84 22 c 256 (by rw [hk.size]; omega) _ hc Try.underlying22 rfl df.info22
  rw [extract_cs hk hs] at hr
  exact wpList_plain hgd fun _ hK => by
    unfold Oper.wp execOp
    simp only [ho, hx, Instr.loadAt, Instr.sureAddr, Sem.run_bind, Sem.run_pure, Result.andThen_ok, hr]
    exact hK _ _ h
/-- how far a state is left -/
structure Lv (d : df.Dfa) (F : List Nat) (S : List Int) (s k : Nat) (nums : List Int) (S' : List Int) : Prop where
  lg : lgs d S' = (rowN (lgs d S) ((dm d).lang (some s)) k).1
  num : Num (dm d) (pa F) (lgs d S') nums
  nd : (lgs d S').Nodup
  ins : ∀ x ∈ S', 0 ≤ x ∧ x < (d.next.length : Int)
  len : S'.length ≤ S.length + k
  pre : S <+: S'
theorem lv_start {d : df.Dfa} {F : List Nat} {S : List Int} (s : Nat) {nums : List Int} (h1 : Num (dm d) (pa F) (lgs d S) nums) (h2 : (lgs d S).Nodup) (h3 : ∀ x ∈ S, 0 ≤ x ∧ x < (d.next.length : Int)) : Lv d F S s 0 nums S := ⟨rfl, h1, h2, h3, by omega, List.prefix_refl _⟩
section
variable {d : df.Dfa} {F : List Nat} {S S' : List Int} {s k : Nat} {nums : List Int}
theorem Lv.no (h : Lv d F S s k nums S') (hl : Lab (dm d) (pa F)) (hx : (dm d).goO (some s) (by8 k) ∈ items (dm d)) (h0 : pa F ((dm d).goO (some s) (by8 k)) = 0) : Lv d F S s (k + 1) nums S' ∧ (rowN (lgs d S) ((dm d).lang (some s)) (k + 1)).2 = (rowN (lgs d S) ((dm d).lang (some s)) k).2 ++ [-1] ∧ nums[pa F ((dm d).goO (some s) (by8 k))]? = some (-1) := by
  obtain ⟨e1, e2⟩ := h.num.no hl hx h0
  rw [h.lg] at e1
  refine ⟨⟨?_, h.num, h.nd, h.ins, by have := h.len; omega, h.pre⟩, ?_, e2⟩
  · rw [rowN_next, lang_dv, e1]; exact h.lg
  · rw [rowN_next, lang_dv, e1]
theorem Lv.old (h : Lv d F S s k nums S') (hl : Lab (dm d) (pa F)) (hx : (dm d).goO (some s) (by8 k) ∈ items (dm d)) (h0 : pa F ((dm d).goO (some s) (by8 k)) ≠ 0) {v : Int} (hv : nums[pa F ((dm d).goO (some s) (by8 k))]? = some v) (hn : v ≠ -1) : Lv d F S s (k + 1) nums S' ∧ (rowN (lgs d S) ((dm d).lang (some s)) (k + 1)).2 = (rowN (lgs d S) ((dm d).lang (some s)) k).2 ++ [v] := by
  have e1 := h.num.old hl h.nd hx h0 hv hn
  rw [h.lg] at e1
  refine ⟨⟨?_, h.num, h.nd, h.ins, by have := h.len; omega, h.pre⟩, ?_⟩
  · rw [rowN_next, lang_dv, e1]; exact h.lg
  · rw [rowN_next, lang_dv, e1]
theorem Lv.new (h : Lv d F S s k nums S') (hl : Lab (dm d) (pa F)) (hx : (dm d).goO (some s) (by8 k) ∈ items (dm d)) (h0 : pa F ((dm d).goO (some s) (by8 k)) ≠ 0) (hv : nums[pa F ((dm d).goO (some s) (by8 k))]? = some (-1)) : 0 ≤ st ((dm d).goO (some s) (by8 k)) ∧ Lv d F S s (k + 1) (nums.set (pa F ((dm d).goO (some s) (by8 k))) (S'.length : Int)) (S' ++ [st ((dm d).goO (some s) (by8 k))]) ∧ (rowN (lgs d S) ((dm d).lang (some s)) (k + 1)).2 = (rowN (lgs d S) ((dm d).lang (some s)) k).2 ++ [(S'.length : Int)] := by
  obtain ⟨e1, e2⟩ := h.num.new hl hx h0 hv
  have hne : (dm d).goO (some s) (by8 k) ≠ none := fun e => h0 (by rw [e]; exact hl.zero)
  obtain ⟨t, ht⟩ := Option.ne_none_iff_exists'.1 hne
  have htl : t < d.next.length := by have := mem_items.1 hx t ht; exact this
  have hm := met_spec (lgs d S') ((dm d).lang ((dm d).goO (some s) (by8 k)))
  have hlen : (lgs d S').length = S'.length := by simp [lgs]
  have hadd : lgs d (S' ++ [st ((dm d).goO (some s) (by8 k))]) = lgs d S' ++ [(dm d).lang ((dm d).goO (some s) (by8 k))] := by
    rw [ht]; simp [lgs, st]
  rw [hlen] at e1 e2
  refine ⟨by rw [ht]; show (0 : Int) ≤ (t : Int); omega, ⟨?_, ?_, ?_, fun x hx2 => ?_, ?_, ?_⟩, ?_⟩
  · rw [rowN_next, lang_dv, ← h.lg, e1, hadd]
  · rw [hadd]; exact e2
  · rw [hadd]; have := hm.2.2.1 h.nd; rw [e1] at this; exact this
  · rcases List.mem_append.1 hx2 with hx2 | hx2
    · exact h.ins x hx2
    · rw [List.mem_singleton.1 hx2, ht]; show (0 : Int) ≤ (t : Int) ∧ (t : Int) < _; omega
  · have := h.len; simp; omega
  · exact h.pre.trans (List.prefix_append _ _)
  · rw [rowN_next, lang_dv, ← h.lg, e1]
end
end Go.Proofs.Ytkdkibnjfgcppaa.mi

namespace Go.Proofs.Ytkdkibnjfgcppaa.mi
open Go.ChangeShapes Go.WideShapes Go.ChangeAt Go.RowKit Go.Shelf Go.Maps
set_option linter.unusedVariables false

theorem info89 : (Try.prog.info? 89).map (fun i => (i.zero, i.size, i.bytes)) = some (some (.agg (ics zr)), 256, 2048) := by kernel_rfl
theorem fill89 (r : List Int) (hr : r.length = 256) (Z : Array Value) (hZ : Z.size = 256) : Instr.fill (fun i => some (i * 256, 256)) Z [(0, .agg (ics r))] = some (ics r) := by
  rw [fill1 _ _ 0 0 256 (.agg (ics r)) [] (by simp) (by show (ics r).size = 256; rw [ics_size, hr]) (by omega)]
  show some _ = some _
  congr 1
  have hcl : (Value.agg (ics r)).cells.toList = (ics r).toList := rfl
  have hlen : (ics r).toList.length = 256 := by simp [ics_size, hr]
  rw [hcl]
  apply Array.ext_getElem?
  intro i
  refine (lay_get (ics r).toList 0 0 Z i).trans ?_
  rw [hlen, hZ]
  by_cases h : i < 256
  · rw [if_pos (by omega)]; simp
  · rw [if_neg (by omega), Array.getElem?_eq_none (by omega), Array.getElem?_eq_none (by rw [ics_size, hr]; omega)]
set_option maxRecDepth 100000 in
theorem app82 {w : World} {K g0 : Nat} {v : Value} {rows : List (List Int)} {r : List Int} (hr : r.length = 256)
    (ho : w.ownsRow K 89 256 v rows.length (flat rows)) (hb : w.heap[g0]? = some (.cells (ics r) 89 (0, 0))) (hn : rows.length ≤ 100000) (hK : K ≤ w.heap.size) :
    ∃ q c w', (Builtin.append_ #[82, 82] 82 #[v, .slice (some ⟨g0, 0, none⟩) 1 1]).run Try.prog w = .ok (.slice (some ⟨q, 0, none⟩) (rows.length + 1) c) w' ∧ w'.ownsRow K 89 256 (.slice (some ⟨q, 0, none⟩) (rows.length + 1) c) (rows ++ [r]).length (flat (rows ++ [r])) ∧ w.grownBy w' v.ownBlock ∧ ((Value.slice (some ⟨q, 0, none⟩) (rows.length + 1) c).ownBlock = v.ownBlock ∨ q = w.heap.size) := by
  obtain ⟨i0, hi0, hz0, hz1, hz2⟩ := info_parts info89
  obtain ⟨v', w', e, h1, h2, _, h4⟩ := run_append_own_at (P := Try.prog) w K 82 82 89 i0 (.agg (ics zr)) 256 2048 Try.underlying82 hi0 hz0 hz1 hz2 (by show (ics zr).size = 256; rw [ics_size]; rfl) (by omega) v rows.length (flat rows) ho ⟨g0, 0, none⟩ 1 1 (ivs r) (by simp [hr]) (fun j u hu => by
    have hadd : (⟨g0, 0, none⟩ : Addr).add j = ⟨g0, j, none⟩ := by unfold Addr.add; split <;> simp_all
    rw [hadd, Lib.cell_of_heap hb]
    simpa [ics] using hu) (fun u hu => by obtain ⟨z, _, rfl⟩ := List.mem_map.1 hu; rfl) (by unfold maxLen; omega) (by omega) hK
  have h1' : w'.ownsRow K 89 256 v' (rows ++ [r]).length (flat (rows ++ [r])) := by
    rw [List.length_append]
    have : flat (rows ++ [r]) = flat rows ++ ivs r := by simp [flat]
    rw [this]
    exact h1
  rcases h1.2 with ⟨_, h0⟩ | ⟨q, c, cur, ev, _⟩
  · omega
  · subst ev
    refine ⟨q, c, w', e, h1', h2, h4.imp id (fun e2 => ?_)⟩
    exact Option.some.inj e2
section
variable {o : Oper} {a : Act} {w : World}
theorem x_build82 {x : Operand} {r : List Int} (hr : r.length = 256) (h : o.op = .buildSlice 82 1 #[(0, x)]) (hx : a.eval x = .agg (ics r)) : (execOp a.eval o).run Try.prog w = .ok (.value (.slice (some ⟨w.heap.size, 0, none⟩) 1 1)) (w.alloc (.cells (ics r) 89)) := by
  obtain ⟨i0, hi0, hz0, hz1, hz2⟩ := info_parts info89
  have e := run_buildSlice (P := Try.prog) w 82 89 1 #[(0, .agg (ics r))] (ics r) i0 (.agg (ics zr)) Try.underlying82 hi0 hz0 (by rw [hz1]; omega) (by rw [hz1]; omega) (by rw [hz1]; exact fill89 r hr _ (by simp))
  unfold execOp
  rw [h]
  simp [hx, e, Result.andThen]
theorem x_load82 {x : Operand} {g i : Nat} {v : Value} (h : o.op = .load 82 x) (hx : a.eval x = .pointer (some ⟨g, i, none⟩)) (hc : w.cell? ⟨g, i, none⟩ = some v) : (execOp a.eval o).run Try.prog w = .ok (.value v) w := by
  unfold execOp
  rw [h]
  simp only [hx]
  go_simp
theorem x_load89 {x : Operand} {g : Nat} {r : List Int} (hr : r.length = 256) (h : o.op = .load 89 x) (hx : a.eval x = .pointer (some ⟨g, 0, none⟩)) (hb : RBox w g r) : (execOp a.eval o).run Try.prog w = .ok (.value (.agg (ics r))) w := by
  unfold execOp
  simp only [h, hx, Instr.loadAt, Instr.sureAddr, Sem.run_bind, Sem.run_pure, Result.andThen_ok, run_loadVar_row w g 89 89 (ics r) (0, 0) _ hb Try.underlying89 rfl (sizeR r hr)]
theorem x_app82 {x y : Operand} {v u v' : Value} {w' : World} (h : o.op = .call { callee := .builtin .append, args := #[x, y], argTypes := #[82, 82] }) (ht : o.type = 82) (hx : a.eval x = v) (hy : a.eval y = u) (e : (Builtin.append_ #[82, 82] 82 #[v, u]).run Try.prog w = .ok v' w') : (execOp a.eval o).run Try.prog w = .ok (.value v') w' := by
  unfold execOp
  simp only [h, ht, resolve, invoke, builtin, Sem.run_bind, Sem.run_pure, Result.andThen_ok, List.map_toArray, List.map_cons, List.map_nil, hx, hy, e]
theorem x_store82 {x y : Operand} {g i n c : Nat} {q : Option Addr} {u : Value} (h : o.op = .store 82 x y) (hx : a.eval x = .pointer (some ⟨g, i, none⟩)) (hy : a.eval y = .slice q n c) (hc : w.cell? ⟨g, i, none⟩ = some u) (hf : w.frozen? ⟨g, i, none⟩ = false) : (execOp a.eval o).run Try.prog w = .ok .skip (w.setCell ⟨g, i, none⟩ (.slice q n c)) := by
  unfold execOp
  rw [h]
  simp only [hx, hy]
  go_simp
end
end Go.Proofs.Ytkdkibnjfgcppaa.mi
namespace Go.Proofs.Ytkdkibnjfgcppaa.rg
open Go.RowKit
theorem op_skip {ops : Array Oper} {op : Oper} {a : Act} {Q : Exit → Act → World → Prop} {w : World} {R : Act → World → Prop} (i : Nat) {w' : World} (ho : ops[i]? = some op) (hd : op.dst = none) (hw : Region.wanted op (yielded ops a.tmps) = true) (hx : (execOp a.eval op).run Try.prog w = .ok .skip w') (h : R a w') : wpOp Try.prog ops Q i R a w := by
  unfold wpOp
  simp only [ho, hw, if_true]
  refine .inl ?_
  unfold Oper.wp
  rw [hx]
  simp only [Oper.upon]
  rw [hd]
  exact h
end Go.Proofs.Ytkdkibnjfgcppaa.rg
