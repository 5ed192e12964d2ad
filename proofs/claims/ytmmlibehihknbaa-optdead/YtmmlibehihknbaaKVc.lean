/-
  Plain and contracts over this program: pushing on an own row of ids; what the document's Eval (fretsawref19) goes through.
-/
import Derived.Test.YtmmlibehihknbaaM27
import Derived.Test.YtmmlibehihknbaaM30
import Derived.Test.YtmmlibehihknbaaM22
import Derived.Test.YtmmlibehihknbaaKPPl
import Derived.Test.YtmmlibehihknbaaM23
namespace Go.Proofs.Ytmmlibehihknbaa.ir
open Go.ChangeShapes Go.WideShapes Go.ChangeAt Go.RowKit
open mg (Row In iv IntsV chain below_alloc Mg Mgs app idsOf)
open tr (Mc Mp mv MAt)
set_option linter.unusedVariables false
set_option maxRecDepth 100000

theorem row_mc {w : World} {b o : Nat} {g : Sg} {p : Sp} (h : w.rangeAt b o (svL g p)) : w.rangeAt b (o + 1) g.mc := range_sub [.int .i64 g.kind] g.mc _ h
theorem step_some {m : Mc} {t u : ByteArray} (h : stepT m t = some u) : tr.rrunT m t 262144 = u ∧ tr.rrunL m t 262144 = false := by
  unfold stepT at h
  unfold tr.rrunT tr.rrunL
  split at h
  · rename_i h1
    rw [if_pos h1]
    exact ⟨Option.some.inj h, decide_eq_false (by omega)⟩
  · cases h
theorem step_none {m : Mc} {t : ByteArray} (h : stepT m t = none) : tr.rrunL m t 262144 = true := by
  unfold stepT at h
  unfold tr.rrunL
  split at h
  · cases h
  · exact decide_eq_true (by omega)
/-- the exchanged text, byte by byte -/
theorem tT_bs (T : Nat → Nat) (s : ByteArray) : tT T s = tr.bs (s.data.toList.map fun c => by8 (T c.toNat)) := by
  unfold tT tr.bs
  have hl : s.data.toList.length = s.size := size_list s
  congr 2
  apply List.ext_getElem?
  intro i
  rw [List.getElem?_map, List.getElem?_map]
  by_cases hi : i < s.size
  · rw [mixT_get T s s.size i hi, if_pos hi, List.getElem?_eq_getElem (by omega)]
    simp only [Option.map_some]
    rw [byteAt_list, List.getD_eq_getElem?_getD, List.getElem?_eq_getElem (by omega)]
    rfl
  · rw [List.getElem?_eq_none (by rw [mixT_len]; omega), List.getElem?_eq_none (by omega)]
    rfl
/-- two rows lie apart -/
def Apart (u v : Value) : Prop := ∀ g, u.ownBlock = some g → v.ownBlock ≠ some g
theorem apart_new {w w' : World} {B : Nat} {u v : Value} {l m : List Int} (hv : Ids w B v l) (hu : Ids w' w.heap.size u m) : Apart u v := fun g e e2 => by
  have h1 := (ow.lt hu e).1
  have h2 := (ow.lt hv e2).2
  omega
theorem push_int {ops : Array Oper} {rest : List Oper} {o : Oper} {a : Act} {Q : Exit → Act → World → Prop} (hgd : o.guard = none) (s x : Operand)
    (ho : o.op = Op.call { callee := Callee.builtin Builtin.append, args := #[s, x], argTypes := #[25, 25] }) (w wr : World) (hb : Below w.heap.size w wr) (v : Value) (l : List Int) (y : Int) (hs : a.eval s = v) (hx : a.eval x = .slice (some ⟨wr.heap.size, 0, none⟩) 1 1) (hown : Ids wr w.heap.size v l) (hl : l.length ≤ 1000000)
    (h : ∀ g cap w2, Ids w2 w.heap.size (.slice (some ⟨g, 0, none⟩) (l ++ [y]).length cap) (l ++ [y]) → Below w.heap.size w w2 → (∀ B' u l', Ids wr B' u l' → Apart u v → Ids w2 B' u l' ∧ Apart u (.slice (some ⟨g, 0, none⟩) (l ++ [y]).length cap)) → wpList Try.prog ops Q rest (a.put o.dst (.slice (some ⟨g, 0, none⟩) (l ++ [y]).length cap)) w2) : wpList Try.prog ops Q (o :: rest) a (wr.alloc (.cells #[.int .i64 y] 3)) := by
  have ho2 : (wr.alloc (.cells #[.int .i64 y] 3)).ownsRow w.heap.size 3 1 v l.length (l.map iv) := ow.later hown (below_alloc wr _)
  refine ow.wpList_append hgd s x 25 ho 3 (.int .i64 0) 1 8 Try.underlying25 (by kernel_rfl) rfl (by omega) (by omega) w.heap.size v l.length (l.map iv) wr.heap.size [.int .i64 y] hs hx ho2 rfl (ow.new1 wr _ 3) (ow.one1 _ rfl) hl (Nat.le_trans hb.size (by simp)) ?_
  intro g cap w2 h1 h2 h3
  have b1 : Below w.heap.size w (wr.alloc (.cells #[.int .i64 y] 3)) := hb.alloc hb.size _
  have b2 : Below w.heap.size w w2 := b1.grown h2 b1.size (fun k hk => (ow.lt ho2 hk).1)
  have e : (l ++ [y]).length = l.length + 1 := by simp
  have h4 := h g cap w2 (by
    unfold Ids
    rw [e, List.map_append]
    exact h1) b2 (fun B' u l' hu ha => by
      refine ⟨ow.keep hu fun k hk => ?_, fun k hk e2 => ?_⟩
      · have hlt := (ow.lt hu hk).2
        exact (h2.block k (by simp; omega) (fun e2 => ha k hk e2.symm)).trans (Below.heap_alloc wr _ k hlt)
      · have hlt := (ow.lt hu hk).2
        have e3 : g = k := by simpa [Value.ownBlock] using e2
        subst e3
        rcases h3 with h3 | h3
        · exact ha g hk h3.symm
        · simp at h3; omega)
  rw [e] at h4
  exact h4
/-- a list of numbers that came in: what it holds in every later world -/
def IV (w : World) (o : Option Addr) (l : List Int) : Prop := ∀ W, Below w.heap.size w W → ∀ i (h : i < l.length), ∃ b off, o = some ⟨b, off, none⟩ ∧ W.cell? ⟨b, off + i, none⟩ = some (.int .i64 l[i])
theorem iv_of {w : World} {v : Value} {l : List Int} (h : IntsV w v l) : ∃ o cap, v = .slice o l.length cap ∧ l.length ≤ cap ∧ cap ≤ 9223372036854775807 ∧ Hid (IV w o l) := by
  obtain ⟨o, cap, rfl, hr⟩ := h
  refine ⟨o, cap, rfl, hr.fit, hr.top, fun W c i hi => ?_⟩
  obtain ⟨b, off, e, hb, hc⟩ := hr.lie i hi
  exact ⟨b, off, e, (c.cell (p := ⟨b, off + i, none⟩) hb).trans hc⟩
/-- between the pieces -/
structure P4 (w : World) (d : df.Dfa) (K : List Mg) (bf : List Int) (T : ByteArray) (ve : Value) (B : Nat) (i fr : Nat) (o : List Int) (vo : Value) (wr : World) : Prop where
  out : Ids wr w.heap.size vo o
  ends : Ids wr B ve (pc.endsL d T)
  ap : Apart ve vo
  be : Below w.heap.size w wr
  pre : ∃ pre : List (Nat × Nat), pc.all d T 0 = pre ++ pc.all d T fr ∧ pre.length = i ∧ o = bf ++ toksL K (pre.map fun p => T.extract p.1 p.2)
/-- within a piece -/
structure P5 (w : World) (es : List Int) (ve : Value) (B : Nat) (tl : List Int) (vt : Value) (B2 : Nat) (o0 : List Int) (j : Nat) (o : List Int) (vo : Value) (wr : World) : Prop where
  out : Ids wr w.heap.size vo o
  ends : Ids wr B ve es
  ap : Apart ve vo
  toks : Ids wr B2 vt tl
  ap2 : Apart vt vo
  be : Below w.heap.size w wr
  eq : o = o0 ++ tl.take j
theorem P4.next {w : World} {d : df.Dfa} {K : List Mg} {bf : List Int} {T : ByteArray} {ve : Value} {B i fr : Nat} {o : List Int} {vo : Value} {wr : World} (h : P4 w d K bf T ve B i fr o vo wr) (hi : i < (pc.endsL d T).length) : fr < T.size ∧ (pc.endsL d T)[i] = ((pc.stop d T fr : Nat) : Int) ∧ fr ≤ pc.stop d T fr ∧ pc.stop d T fr ≤ T.size := by
  obtain ⟨pre, e1, e2, _⟩ := h.pre
  have hl : (pc.endsL d T).length = (pc.all d T 0).length := by unfold pc.endsL; rw [List.length_map]
  by_cases hf : fr < T.size
  · refine ⟨hf, ?_, Nat.le_of_lt (pc.stop_gt d T fr), pc.stop_le d T fr hf⟩
    have e3 := pc.all_more d T fr hf
    rw [e3] at e1
    have e4 : (pc.endsL d T)[i]? = some ((pc.stop d T fr : Nat) : Int) := by
      unfold pc.endsL
      rw [e1, List.map_append, List.getElem?_append_right (by rw [List.length_map]; omega), List.length_map, e2, Nat.sub_self]
      rfl
    rw [List.getElem?_eq_getElem hi] at e4
    exact Option.some.inj e4
  · rw [pc.all_end d T fr (by omega), List.append_nil] at e1
    rw [hl, e1] at hi
    omega
theorem P4.len {w : World} {d : df.Dfa} {K : List Mg} {bf : List Int} {T : ByteArray} {ve : Value} {B i fr : Nat} {o : List Int} {vo : Value} {wr : World} (h : P4 w d K bf T ve B i fr o vo wr) : o.length ≤ bf.length + T.size := by
  obtain ⟨pre, e1, _, rfl⟩ := h.pre
  rw [List.length_append]
  have h1 := toks_len K (pre.map fun p => T.extract p.1 p.2)
  have h2 := sizes_pcs d T T.size 0 (by omega)
  rw [e1, List.map_append] at h2
  have h3 : sizes (List.map (fun p : Nat × Nat => T.extract p.1 p.2) pre ++ List.map (fun p : Nat × Nat => T.extract p.1 p.2) (pc.all d T fr)) = sizes (pre.map fun p => T.extract p.1 p.2) + sizes ((pc.all d T fr).map fun p => T.extract p.1 p.2) := by
    unfold sizes
    rw [List.map_append, List.sum_append]
  omega
theorem P4.put {w : World} {d : df.Dfa} {K : List Mg} {bf : List Int} {T : ByteArray} {ve : Value} {B i fr : Nat} {o : List Int} {vo : Value} {wr : World} (h : P4 w d K bf T ve B i fr o vo wr) (hf : fr < T.size) {tl : List Int} (ht : tl = app K (idsOf (T.extract fr (pc.stop d T fr)))) {vt : Value} {B2 j : Nat} {o2 : List Int} {vo2 : Value} {wz : World} (g : P5 w (pc.endsL d T) ve B tl vt B2 o j o2 vo2 wz) (hj : tl.length ≤ j) : P4 w d K bf T ve B (i + 1) (pc.stop d T fr) o2 vo2 wz := by
  obtain ⟨pre, e1, e2, e3⟩ := h.pre
  refine ⟨g.out, g.ends, g.ap, g.be, pre ++ [(fr, pc.stop d T fr)], ?_, by simp [e2], ?_⟩
  · rw [e1, pc.all_more d T fr hf]; simp
  · rw [g.eq, List.take_of_length_le hj, e3, ht, List.map_append, List.map_cons, List.map_nil, toks_snoc, List.append_assoc]
theorem P4.done {w : World} {d : df.Dfa} {K : List Mg} {bf : List Int} {T : ByteArray} {ve : Value} {B i fr : Nat} {o : List Int} {vo : Value} {wr : World} (h : P4 w d K bf T ve B i fr o vo wr) (hi : (pc.endsL d T).length ≤ i) : o = bf ++ toksL K (pc.textsL d T) := by
  obtain ⟨pre, e1, e2, rfl⟩ := h.pre
  have hl : (pc.endsL d T).length = (pc.all d T 0).length := by unfold pc.endsL; rw [List.length_map]
  rw [hl, e1, List.length_append] at hi
  have : pc.all d T fr = [] := List.length_eq_zero_iff.1 (by omega)
  rw [this, List.append_nil] at e1
  unfold pc.textsL
  rw [e1]
/-- the document's answer at stages that fit -/
def REvalOut (l : List Sm) (k : Nat) (x0 x1 x2 : Sm) (s : ByteArray) (w : World) (e : Ending) (w' : World) : Prop :=
  (chainT (mcs l k) s = none ∧ e = .returned (.tuple #[.slice none 0 0, .bool false]) ∧ Below w.heap.size w w') ∨ (∃ t v, chainT (mcs l k) s = some t ∧ e = .returned (.tuple #[v, .bool true]) ∧ Ids w' w.heap.size v (evalL x0.g x1.g x2.g t) ∧ Below w.heap.size w w')
end Go.Proofs.Ytmmlibehihknbaa.ir
