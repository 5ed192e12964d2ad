/-
  Contracts over this program: a state is left by each byte (leave).
-/
import Derived.Test.YtkdkibnjfgcppaaMo
namespace Go.Proofs.Ytkdkibnjfgcppaa.mi
open Go.ChangeShapes Go.WideShapes Go.ChangeAt Go.RowKit Go.Shelf Go.Maps
set_option linter.unusedVariables false

theorem extract_cs {c cs : Array Value} {p n s r : Value} (h : WCells c cs p n s r) (hs : cs.size = 258) : c.extract 0 256 = cs.extract 0 256 := by
  apply Array.ext_getElem?
  intro i
  have h1 := h.size
  rw [Array.getElem?_extract, Array.getElem?_extract]
  by_cases hi : i < 256
  · rw [if_pos (by omega), if_pos (by omega), Nat.zero_add]
    exact h.d i (by omega)
  · rw [if_neg (by omega), if_neg (by omega)]
theorem wpList_load22w {ops : Array Oper} {rest : List Oper} {oo : Oper} {a : Act} {w : World} {Q : Exit → Act → World → Prop} (hgd : oo.guard = none) (x : Operand) (ho : oo.op = .load 22 x)
    (g : Nat) (hx : a.eval x = .pointer (some ⟨g, 0, none⟩)) (cs : Array Value) (p n s r : Value) (hg : WBox w g cs p n s r) (hs : cs.size = 258)
    (h : wpList Try.prog ops Q rest (a.put oo.dst (.agg (cs.extract 0 256))) w) : wpList Try.prog ops Q (oo :: rest) a w := by
  obtain ⟨c, hc, hk⟩ := hg
  have hr := df.run_load_part (P := Try.prog) w g 84 22 c 256 (by rw [hk.size]; omega) _ hc Try.underlying22 rfl df.info22
  rw [extract_cs hk hs] at hr
  exact wpList_plain hgd fun _ hK => by
    unfold Oper.wp execOp
    simp only [ho, hx, Instr.loadAt, Instr.sureAddr, Sem.run_bind, Sem.run_pure, Result.andThen_ok, hr]
    exact hK _ _ h
/-- how far a state is left -/
structure Lv (d : df.Dfa) (F : List Nat) (S : List Int) (s k : Nat) (nums : List Int) (S' : List Int) : Prop where
  lg : lgs d S' = (rowN (lgs d S) ((dm d).lang (some s)) k).1
  num : Num (dm d) (pa F) (lgs d S') nums
  nd : (lgs d S').Nodup
  ins : ∀ x ∈ S', 0 ≤ x ∧ x < (d.next.length : Int)
  len : S'.length ≤ S.length + k
  pre : S <+: S'
theorem lv_start {d : df.Dfa} {F : List Nat} {S : List Int} (s : Nat) {nums : List Int} (h1 : Num (dm d) (pa F) (lgs d S) nums) (h2 : (lgs d S).Nodup) (h3 : ∀ x ∈ S, 0 ≤ x ∧ x < (d.next.length : Int)) : Lv d F S s 0 nums S := ⟨rfl, h1, h2, h3, by omega, List.prefix_refl _⟩
section
variable {d : df.Dfa} {F : List Nat} {S S' : List Int} {s k : Nat} {nums : List Int}
theorem Lv.no (h : Lv d F S s k nums S') (hl : Lab (dm d) (pa F)) (hx : (dm d).goO (some s) (by8 k) ∈ items (dm d)) (h0 : pa F ((dm d).goO (some s) (by8 k)) = 0) : Lv d F S s (k + 1) nums S' ∧ (rowN (lgs d S) ((dm d).lang (some s)) (k + 1)).2 = (rowN (lgs d S) ((dm d).lang (some s)) k).2 ++ [-1] ∧ nums[pa F ((dm d).goO (some s) (by8 k))]? = some (-1) := by
  obtain ⟨e1, e2⟩ := h.num.no hl hx h0
  rw [h.lg] at e1
  refine ⟨⟨?_, h.num, h.nd, h.ins, by have := h.len; omega, h.pre⟩, ?_, e2⟩
  · rw [rowN_next, lang_dv, e1]; exact h.lg
  · rw [rowN_next, lang_dv, e1]
theorem Lv.old (h : Lv d F S s k nums S') (hl : Lab (dm d) (pa F)) (hx : (dm d).goO (some s) (by8 k) ∈ items (dm d)) (h0 : pa F ((dm d).goO (some s) (by8 k)) ≠ 0) {v : Int} (hv : nums[pa F ((dm d).goO (some s) (by8 k))]? = some v) (hn : v ≠ -1) : Lv d F S s (k + 1) nums S' ∧ (rowN (lgs d S) ((dm d).lang (some s)) (k + 1)).2 = (rowN (lgs d S) ((dm d).lang (some s)) k).2 ++ [v] := by
  have e1 := h.num.old hl h.nd hx h0 hv hn
  rw [h.lg] at e1
  refine ⟨⟨?_, h.num, h.nd, h.ins, by have := h.len; omega, h.pre⟩, ?_⟩
  · rw [rowN_next, lang_dv, e1]; exact h.lg
  · rw [rowN_next, lang_dv, e1]
theorem Lv.new (h : Lv d F S s k nums S') (hl : Lab (dm d) (pa F)) (hx : (dm d).goO (some s) (by8 k) ∈ items (dm d)) (h0 : pa F ((dm d).goO (some s) (by8 k)) ≠ 0) (hv : nums[pa F ((dm d).goO (some s) (by8 k))]? = some (-1)) : 0 ≤ st ((dm d).goO (some s) (by8 k)) ∧ Lv d F S s (k + 1) (nums.set (pa F ((dm d).goO (some s) (by8 k))) (S'.length : Int)) (S' ++ [st ((dm d).goO (some s) (by8 k))]) ∧ (rowN (lgs d S) ((dm d).lang (some s)) (k + 1)).2 = (rowN (lgs d S) ((dm d).lang (some s)) k).2 ++ [(S'.length : Int)] := by
  obtain ⟨e1, e2⟩ := h.num.new hl hx h0 hv
  have hne : (dm d).goO (some s) (by8 k) ≠ none := fun e => h0 (by rw [e]; exact hl.zero)
  obtain ⟨t, ht⟩ := Option.ne_none_iff_exists'.1 hne
  have htl : t < d.next.length := by have := mem_items.1 hx t ht; exact this
  have hm := met_spec (lgs d S') ((dm d).lang ((dm d).goO (some s) (by8 k)))
  have hlen : (lgs d S').length = S'.length := by simp [lgs]
  have hadd : lgs d (S' ++ [st ((dm d).goO (some s) (by8 k))]) = lgs d S' ++ [(dm d).lang ((dm d).goO (some s) (by8 k))] := by
    rw [ht]; simp [lgs, st]
  rw [hlen] at e1 e2
  refine ⟨by rw [ht]; show (0 : Int) ≤ (t : Int); omega, ⟨?_, ?_, ?_, fun x hx2 => ?_, ?_, ?_⟩, ?_⟩
  · rw [rowN_next, lang_dv, ← h.lg, e1, hadd]
  · rw [hadd]; exact e2
  · rw [hadd]; have := hm.2.2.1 h.nd; rw [e1] at this; exact this
  · rcases List.mem_append.1 hx2 with hx2 | hx2
    · exact h.ins x hx2
    · rw [List.mem_singleton.1 hx2, ht]; show (0 : Int) ≤ (t : Int) ∧ (t : Int) < _; omega
  · have := h.len; simp; omega
  · exact h.pre.trans (List.prefix_append _ _)
  · rw [rowN_next, lang_dv, ← h.lg, e1]
end
end Go.Proofs.Ytkdkibnjfgcppaa.mi
